/- What the document fixes of masters comes out (awake of careenlaw12). -/
import Derived.Test.YtbjpnkjddfpmpaaMaI
import Derived.Test.YtbjpnkjddfpmpaaLoadG
namespace Go.Proofs.Ytbjpnkjddfpmpaa
open Go.RowKit

namespace Aw12
def d0 : Dk := Dk.new 2
def m1 : Ms := ⟨300, 2⟩
def d1 : Dk := cdM.write d0 0 1 m1
theorem may1 : m1.May := by decide
theorem mst0 : cdM.Mst d0 0 0 := Cd.Mst.new cdM (by decide) (by decide)
theorem rd0 : cdM.rd d0 0 = (0, Ms.none) := Cd.rd_new cdM (by decide)
theorem read0 : Cd.readE d0 0 = 0 ∧ cdM.read d0 0 = (0, Ms.none) := by
  have := mst0.rest.read cdM mst0.fit
  exact ⟨this.1, this.2.trans rd0⟩
theorem step : cdM.writeE d0 0 1 m1 = 0 ∧ cdM.Mst d1 0 1 ∧ cdM.rd d1 0 = (1, m1) := by
  have := Cd.Mst.write cdM mst0 may1 (by decide)
  rw [rd0] at this
  exact this
theorem read1 : Cd.readE d1 0 = 0 ∧ cdM.read d1 0 = (1, m1) := by
  have := step.2.1.rest.read cdM step.2.1.fit
  exact ⟨this.1, this.2.trans step.2.2⟩
theorem bad1 : cdM.writeE d1 0 2 ⟨0, 0⟩ = 1 ∧ cdM.write d1 0 2 ⟨0, 0⟩ = d1 := wr_bad (by decide +revert)
theorem len1 : d1.safe.length = 2 := by
  have h := mst0.rest.write cdM mst0.fit 1 may1
  unfold d1
  rw [h.2]
  simp [Cd.putAt, d0, Dk.new]
theorem bad2 : cdM.writeE d1 1 2 ⟨0, 1⟩ = 1 ∧ cdM.write d1 1 2 ⟨0, 1⟩ = d1 := wr_bad fun h => by
  have := h.2.2
  rw [len1] at this
  omega
variable {w0 w : World} {F : Foot} {g : Nat}
theorem call0 (h : LiveD w0 w F g (Dk.new 2)) :
    Calls Try.prog 10 #[.pointer (some ⟨g, 0, none⟩), .int .i64 0] w fun e w' => e = .returned (.tuple #[.agg #[.int .i64 0, .int .i64 1], .int .u32 0, .int .i64 0]) ∧ LiveD w0 w' F g d0 ∧ Below w.heap.size w w' := by
  have := h.mread 0
  rw [show Dk.new 2 = d0 from rfl, read0.1, read0.2] at this
  exact this
theorem call1 (h : LiveD w0 w F g d0) :
    Calls Try.prog 13 #[.pointer (some ⟨g, 0, none⟩), .int .i64 0, .int .u32 1, .agg #[.int .i64 300, .int .i64 2]] w fun e w' => e = .returned (.int .i64 0) ∧ ∃ F', LiveD w0 w' F' g d1 ∧ Step F F' w w' := by
  have := h.mwrite 0 1 m1 (by decide) (by rw [mst0.rest.waits]; decide)
  rw [step.1] at this
  exact this
theorem call2 (h : LiveD w0 w F g d1) :
    Calls Try.prog 10 #[.pointer (some ⟨g, 0, none⟩), .int .i64 0] w fun e w' => e = .returned (.tuple #[.agg #[.int .i64 300, .int .i64 2], .int .u32 1, .int .i64 0]) ∧ LiveD w0 w' F g d1 ∧ Below w.heap.size w w' := by
  have := h.mread 0
  rw [read1.1, read1.2] at this
  exact this
theorem call3 (h : LiveD w0 w F g d1) :
    Calls Try.prog 13 #[.pointer (some ⟨g, 0, none⟩), .int .i64 0, .int .u32 2, .agg #[.int .i64 0, .int .i64 0]] w fun e w' => e = .returned (.int .i64 1) ∧ ∃ F', LiveD w0 w' F' g d1 ∧ Step F F' w w' := by
  have := h.mwrite 0 2 ⟨0, 0⟩ (by decide) (by rw [step.2.1.rest.waits]; decide)
  rw [bad1.1, bad1.2] at this
  exact this
theorem call4 (h : LiveD w0 w F g d1) :
    Calls Try.prog 13 #[.pointer (some ⟨g, 0, none⟩), .int .i64 1, .int .u32 2, .agg #[.int .i64 0, .int .i64 1]] w fun e w' => e = .returned (.int .i64 1) ∧ ∃ F', LiveD w0 w' F' g d1 ∧ Step F F' w w' := by
  have := h.mwrite 1 2 ⟨0, 1⟩ (by decide) (by rw [step.2.1.rest.waits]; decide)
  rw [bad2.1, bad2.2] at this
  exact this
end Aw12
/-- A block that isn't the disk's stays, whatever the disk does; nor does it become the disk's. -/
theorem step_apart {w w' : World} {F F' : Foot} {x t : Nat} {cs : Array Value} (st : Step F F' w w') (hx : Blk w x t cs) (hn : ¬ F x) : Blk w' x t cs ∧ ¬ F' x :=
  ⟨(st.block x hx.lt hn).trans hx, fun h => (st.foot x h).elim hn (by have := hx.lt; omega)⟩
set_option maxRecDepth 100000 in
set_option maxHeartbeats 4000000 in
theorem awake12_any (w : World) : Calls Try.prog 8 #[] w fun e w' => e = .returned (.bool true) ∧ Below w.heap.size w w' := by
  go_enter Try.func8, Try.ntmps8
  go_wp2_with fail
  refine (LiveD.made (Below.refl w.heap.size w) 2 (by decide) (by decide)).mono ?_
  rintro e w1 ⟨g, F1, rfl, L1, _⟩
  go_wp2_with fail
  refine (Aw12.call0 L1).mono ?_
  rintro e w2 ⟨rfl, L2, hb2⟩
  go_wp2_with fail
  have X3 := Blk.new w2 30 #[.int .i64 0, .int .i64 1]
  have L3 := L2.more ((Below.refl _ _).alloc (Nat.le_refl _) (.cells #[.int .i64 0, .int .i64 1] 30))
  have n3 : ¬ F1 w2.heap.size := fun h => Nat.lt_irrefl _ (L2.disk.lt _ h)
  clear L1 L2 hb2
  refine (Aw12.call1 L3).mono ?_
  rintro e w4 ⟨rfl, F4, L4, S4⟩
  obtain ⟨X4, n4⟩ := step_apart S4 X3 n3
  clear L3 X3 n3 S4
  go_wp2_with fail
  refine (Aw12.call2 L4).mono ?_
  rintro e w5 ⟨rfl, L5, hb5⟩
  have X5 := X4.keep hb5 X4.lt
  have hz5 : w2.heap.size < w5.heap.size := X5.lt
  have X6 := X5.alloc (.cells #[.int .i64 300, .int .i64 2] 30)
  have Y6 := Blk.new w5 30 #[.int .i64 300, .int .i64 2]
  have L6 := L5.more ((Below.refl _ _).alloc (Nat.le_refl _) (.cells #[.int .i64 300, .int .i64 2] 30))
  clear L4 L5 X4 X5 hb5
  go_wp2_with (first
    | (refine wpList_load_rowG rfl 30 _ rfl w2.heap.size rfl 30 _ (0, 0) _ X6 Try.underlying30 rfl (by kernel_rfl) ?_)
    | (refine wpList_load_rowG rfl 30 _ rfl w5.heap.size rfl 30 _ (0, 0) _ Y6 Try.underlying30 rfl (by kernel_rfl) ?_)
    | (refine wp_ms_eql _ _ _ rfl rfl _ _ _ _ rfl rfl ?_))
  have n6 : ¬ F4 w2.heap.size := n4
  refine (Aw12.call3 L6).mono ?_
  rintro e w7 ⟨rfl, F7, L7, S7⟩
  obtain ⟨X7, n7⟩ := step_apart S7 X6 n6
  clear L6 X6 Y6 n6 n4 S7
  go_wp2_with (refine wpList_load_rowG rfl 30 _ rfl w2.heap.size rfl 30 _ (0, 0) _ X7 Try.underlying30 rfl (by kernel_rfl) ?_)
  refine (Aw12.call4 L7).mono ?_
  rintro e w8 ⟨rfl, F8, L8, S8⟩
  have HB := Lib.hid L8.below
  clear L7 L8 X7 n7 S8
  go_wp2
  go_ret
  exact ⟨rfl, HB.out⟩
set_option maxRecDepth 100000 in
set_option maxHeartbeats 4000000 in
theorem walkMasterNil (b : Int) (c l : Int) (w : World) (_ : (Lit.int .i64 b).wf = true) :
    Calls Try.prog 4 #[.int .i64 b, .agg #[.int .i64 c, .int .i64 l]] w fun e w' => e = .returned (.bool true) ∧ Below w.heap.size w w' := by
  go_enter Try.func4, Try.ntmps4
  go_wp2_with fail
  refine (maRead_nil b _).mono ?_
  rintro e w1 ⟨rfl, hb1⟩
  have X0 := Blk.new w 30 #[.int .i64 c, .int .i64 l]
  have B0 := (Below.refl w.heap.size w).alloc (Nat.le_refl _) (.cells #[.int .i64 c, .int .i64 l] 30)
  have B1 := below2 B0 hb1
  have X2 := (X0.keep hb1 X0.lt).alloc (.cells #[.int .i64 0, .int .i64 0] 30)
  have B2 := B1.alloc B1.size (.cells #[.int .i64 0, .int .i64 0] 30)
  clear X0 B0 B1 hb1
  go_wp2_with fail
  refine (awake12_any _).mono ?_
  rintro e w3 ⟨rfl, hb3⟩
  have X3 := X2.keep hb3 X2.lt
  have B3 := below2 B2 hb3
  clear X2 B2 hb3
  go_wp2_with (refine wpList_load_rowG rfl 30 _ rfl w.heap.size rfl 30 _ (0, 0) _ X3 Try.underlying30 rfl (by kernel_rfl) ?_)
  refine (maWrite_nil b 1 c l _).mono ?_
  rintro e w4 ⟨rfl, hb4⟩
  have HB := Lib.hid (below2 B3 hb4)
  clear X3 B3 hb4
  go_wp2
  go_ret
  exact ⟨rfl, HB.out⟩
end Go.Proofs.Ytbjpnkjddfpmpaa
