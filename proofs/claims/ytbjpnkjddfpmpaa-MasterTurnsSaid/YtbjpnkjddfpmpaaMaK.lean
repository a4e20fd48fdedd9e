/- The statement MasterLost, walked. -/
import Derived.Test.YtbjpnkjddfpmpaaMaJ
import Derived.Test.YtbjpnkjddfpmpaaUint
namespace Go.Proofs.Ytbjpnkjddfpmpaa
open Go.RowKit

namespace Lost12
variable {m n : Ms}
def d1 (m : Ms) : Dk := Cd.putAt (Dk.new 2) 0 1 (encM 1 m)
def d2 (m n : Ms) : Dk := Cd.putAt (d1 m) 0 2 (encM 2 n)
def d3 (m n : Ms) (i : Nat) : Dk := Cd.putAt (d2 m n) 0 i zero128
def d4 (m n : Ms) (i : Nat) : Dk := Cd.putAt (d3 m n i) 0 (1 - i) zero128
theorem fit0 : Cd.fits (Dk.new 2) 0 := Aw12.mst0.fit
theorem fit1 : Cd.fits (d1 m) 0 := Cd.putAt_fits fit0 _ _
theorem fit2 : Cd.fits (d2 m n) 0 := Cd.putAt_fits fit1 _ _
theorem fit3 {i : Nat} : Cd.fits (d3 m n i) 0 := Cd.putAt_fits fit2 _ _
theorem fit4 {i : Nat} : Cd.fits (d4 m n i) 0 := Cd.putAt_fits fit3 _ _
theorem rest1 : Cd.Rest (d1 m) := ⟨rfl, rfl, rfl⟩
theorem rest2 : Cd.Rest (d2 m n) := ⟨rfl, rfl, rfl⟩
theorem rest3 {i : Nat} : Cd.Rest (d3 m n i) := ⟨rfl, rfl, rfl⟩
theorem rest4 {i : Nat} : Cd.Rest (d4 m n i) := ⟨rfl, rfl, rfl⟩
variable {w0 w : World} {F : Foot} {g : Nat}
theorem call1 (h : LiveD w0 w F g (Dk.new 2)) (hm : m.May) :
    Calls Try.prog 13 #[.pointer (some ⟨g, 0, none⟩), .int .i64 0, .int .u32 1, .agg #[.int .i64 m.check, .int .i64 m.low]] w fun e w' => e = .returned (.int .i64 0) ∧ ∃ F', LiveD w0 w' F' g (d1 m) ∧ Step F F' w w' := by
  have := h.mwrite 0 1 m (by decide) (by decide)
  have k := (Cd.Rest.new 2).write cdM fit0 1 hm
  rw [k.1, k.2] at this
  exact this
theorem call2 (h : LiveD w0 w F g (d1 m)) (hn : n.May) :
    Calls Try.prog 13 #[.pointer (some ⟨g, 0, none⟩), .int .i64 0, .int .u32 2, .agg #[.int .i64 n.check, .int .i64 n.low]] w fun e w' => e = .returned (.int .i64 0) ∧ ∃ F', LiveD w0 w' F' g (d2 m n) ∧ Step F F' w w' := by
  have := h.mwrite 0 2 n (by decide) (by rw [rest1.waits]; decide)
  have k := (rest1 (m := m)).write cdM fit1 2 hn
  rw [k.1, k.2] at this
  exact this
theorem call3 (h : LiveD w0 w F g (d2 m n)) (i : Nat) (hi : i < 2) :
    Calls Try.prog 16 #[.pointer (some ⟨g, 0, none⟩), .int .i64 i] w fun e w' => e = .returned (.int .i64 0) ∧ LiveD w0 w' F g (d3 m n i) ∧ Step F F w w' := by
  have := h.lose i
  have k := (rest2 (m := m) (n := n)).lose fit2 i
  rw [show Cd.side 0 i = (i : Int) by unfold Cd.side; omega] at k
  rw [k.1, k.2] at this
  exact this
variable {i : Nat}
theorem call5 (h : LiveD w0 w F g (d3 m n i)) (hi : i < 2) :
    Calls Try.prog 16 #[.pointer (some ⟨g, 0, none⟩), .int .i64 (1 - (i : Int))] w fun e w' => e = .returned (.int .i64 0) ∧ LiveD w0 w' F g (d4 m n i) ∧ Step F F w w' := by
  have := h.lose (1 - i)
  have k := (rest3 (m := m) (n := n) (i := i)).lose fit3 (1 - i)
  rw [show Cd.side 0 (1 - i) = 1 - (i : Int) by unfold Cd.side; omega] at k
  rw [k.1, k.2] at this
  exact this
theorem call4 (h : LiveD w0 w F g (d3 m n i)) (c l : Int) (t : Nat) (hr : cdM.rd (d3 m n i) 0 = (t, ⟨c, l⟩)) :
    Calls Try.prog 10 #[.pointer (some ⟨g, 0, none⟩), .int .i64 0] w fun e w' => e = .returned (.tuple #[.agg #[.int .i64 c, .int .i64 l], .int .u32 t, .int .i64 0]) ∧ LiveD w0 w' F g (d3 m n i) ∧ Below w.heap.size w w' := by
  have := h.mread 0
  have k := (rest3 (m := m) (n := n) (i := i)).read cdM fit3
  rw [k.1, k.2, hr] at this
  exact this
theorem call6 (h : LiveD w0 w F g (d4 m n i)) (hi : i < 2) :
    Calls Try.prog 10 #[.pointer (some ⟨g, 0, none⟩), .int .i64 0] w fun e w' => e = .returned (.tuple #[.agg #[.int .i64 0, .int .i64 1], .int .u32 0, .int .i64 0]) ∧ LiveD w0 w' F g (d4 m n i) ∧ Below w.heap.size w w' := by
  have := h.mread 0
  have k := (rest4 (m := m) (n := n) (i := i)).read cdM fit4
  rw [k.1, k.2, show cdM.rd (d4 m n i) 0 = (0, Ms.none) from Cd.lost_both cdM fit2 i hi] at this
  exact this
end Lost12
set_option maxRecDepth 100000 in
set_option maxHeartbeats 16000000 in
theorem walkMasterLost (ca la cb lb k : Int) (w : World) (_ : (Lit.int .i64 k).wf = true) :
    Calls Try.prog 6 #[.agg #[.int .i64 ca, .int .i64 la], .agg #[.int .i64 cb, .int .i64 lb], .int .i64 k] w fun e w' => e = .returned (.bool true) ∧ Below w.heap.size w w' := by
  have HA := Lib.hid (fun W => refMay12_any ca la W (decide (Ms.May ⟨ca, la⟩)) rfl)
  have HB := Lib.hid (fun W => refMay12_any cb lb W (decide (Ms.May ⟨cb, lb⟩)) rfl)
  have HK := Lib.hid (modN_eq k 2 (by decide) (by decide))
  have HK2 := Lib.hid (modN_lt k 2 (by decide))
  have A0 := (Blk.new w 30 #[.int .i64 ca, .int .i64 la]).alloc (.cells #[.int .i64 cb, .int .i64 lb] 30)
  have C0 := Blk.new (w.alloc (.cells #[.int .i64 ca, .int .i64 la] 30)) 30 #[.int .i64 cb, .int .i64 lb]
  rw [World.size_alloc] at C0
  have B0 := ((Below.refl w.heap.size w).alloc (Nat.le_refl _) (.cells #[.int .i64 ca, .int .i64 la] 30)).alloc (by simp) (.cells #[.int .i64 cb, .int .i64 lb] 30)
  go_enter Try.func6, Try.ntmps6
  go_wp2_with fail
  generalize ((w.alloc (.cells #[.int .i64 ca, .int .i64 la] 30)).alloc (.cells #[.int .i64 cb, .int .i64 lb] 30)) = w1 at *
  have HA0 : Hid (∀ W, Below w1.heap.size w1 W → Blk W w.heap.size 30 #[.int .i64 ca, .int .i64 la]) := fun W hW => A0.keep hW A0.lt
  have HC0 : Hid (∀ W, Below w1.heap.size w1 W → Blk W (w.heap.size + 1) 30 #[.int .i64 cb, .int .i64 lb]) := fun W hW => C0.keep hW C0.lt
  have HB0 : Hid (∀ W, Below w1.heap.size w1 W → Below w.heap.size w W) := fun W hW => below2 B0 hW
  clear A0 C0 B0
  refine (LiveD.made (Below.refl w1.heap.size w1) 2 (by decide) (by decide)).mono ?_
  rintro e w2 ⟨g, F2, rfl, L2, _⟩
  go_wp2_with fail
  refine (awake12_any _).mono ?_
  rintro e w3 ⟨rfl, hb3⟩
  have L3 := L2.more hb3
  clear L2 hb3
  have A3 := HA0.out _ L3.below
  go_wp2_with (refine wpList_load_rowG rfl 30 _ rfl w.heap.size rfl 30 _ (0, 0) _ A3 Try.underlying30 rfl (by kernel_rfl) ?_)
  clear A3
  by_cases hma : Ms.May ⟨ca, la⟩
  rotate_left
  · rw [decide_eq_false hma] at HA
    clear hma
    refine (HA.out _).mono ?_
    rintro e w4 ⟨rfl, hb4⟩
    have L4 := L3.more hb4
    clear L3 hb4 HA HB HK HK2
    go_wp2_with fail
    refine (awake12_any _).mono ?_
    rintro e w9 ⟨rfl, hb9⟩
    have HE := Lib.hid (HB0.out _ (L4.more hb9).below)
    clear L4 hb9
    go_wp2
    go_ret
    exact ⟨rfl, HE.out⟩
  rw [decide_eq_true hma] at HA
  refine (HA.out _).mono ?_
  rintro e w4 ⟨rfl, hb4⟩
  have L4 := L3.more hb4
  have HMA := Lib.hid hma
  clear L3 hb4 HA hma
  have C4 := HC0.out _ L4.below
  go_wp2_with (refine wpList_load_rowG rfl 30 _ rfl (w.heap.size + 1) rfl 30 _ (0, 0) _ C4 Try.underlying30 rfl (by kernel_rfl) ?_)
  clear C4
  by_cases hmb : Ms.May ⟨cb, lb⟩
  rotate_left
  · rw [decide_eq_false hmb] at HB
    clear hmb
    refine (HB.out _).mono ?_
    rintro e w5 ⟨rfl, hb5⟩
    have L5 := L4.more hb5
    clear L4 hb5 HB HK HK2
    go_wp2_with fail
    refine (awake12_any _).mono ?_
    rintro e w9 ⟨rfl, hb9⟩
    have HE := Lib.hid (HB0.out _ (L5.more hb9).below)
    clear L5 hb9
    go_wp2
    go_ret
    exact ⟨rfl, HE.out⟩
  rw [decide_eq_true hmb] at HB
  refine (HB.out _).mono ?_
  rintro e w5 ⟨rfl, hb5⟩
  have L5 := L4.more hb5
  have HMB := Lib.hid hmb
  clear L4 hb5 HB hmb
  go_upto_region 5 with fail
  rw [HK.out]
  have hk2 := HK2.out
  clear HK HK2
  generalize modN k 2 = q at *
  by_cases hq : q = 0
  · subst hq
    clear hk2
    have A5 := HA0.out _ L5.below
    go_wp2_with (refine wpList_load_rowG rfl 30 _ rfl w.heap.size rfl 30 _ (0, 0) _ A5 Try.underlying30 rfl (by kernel_rfl) ?_)
    refine (Lost12.call1 L5 HMA.out).mono ?_
    rintro e w6 ⟨rfl, F6, L6, _⟩
    clear L5 A5
    have C6 := HC0.out _ L6.below
    go_wp2_with (refine wpList_load_rowG rfl 30 _ rfl (w.heap.size + 1) rfl 30 _ (0, 0) _ C6 Try.underlying30 rfl (by kernel_rfl) ?_)
    refine (Lost12.call2 L6 HMB.out).mono ?_
    rintro e w7 ⟨rfl, F7, L7, _⟩
    clear L6 C6
    go_wp2_with fail
    refine (Lost12.call3 L7 0 (by decide)).mono ?_
    rintro e w8 ⟨rfl, L8, _⟩
    clear L7
    go_wp2_with fail
    refine (Lost12.call4 L8 ca la 1 (Cd.lost_first cdM Lost12.fit0 HMA.out)).mono ?_
    rintro e w9 ⟨rfl, L9, hb9⟩
    clear L8 hb9
    go_wp2_with fail
    have X10 := Blk.new w9 30 #[.int .i64 ca, .int .i64 la]
    have n10 : ¬ F7 w9.heap.size := fun h => Nat.lt_irrefl _ (L9.disk.lt _ h)
    have L10 := L9.more ((Below.refl _ _).alloc (Nat.le_refl _) (.cells #[.int .i64 ca, .int .i64 la] 30))
    clear L9
    refine (Lost12.call5 L10 (by decide)).mono ?_
    rintro e w11 ⟨rfl, L11, S11⟩
    obtain ⟨X11, n11⟩ := step_apart S11 X10 n10
    clear X10 n10 L10 S11
    go_wp2_with fail
    refine (Lost12.call6 L11 (by decide)).mono ?_
    rintro e w12 ⟨rfl, L12, hb12⟩
    have X12 := X11.keep hb12 X11.lt
    clear L11 X11 hb12 n11
    have hz12 : w9.heap.size < w12.heap.size := X12.lt
    have X13 := X12.alloc (.cells #[.int .i64 0, .int .i64 1] 30)
    have Y13 := Blk.new w12 30 #[.int .i64 0, .int .i64 1]
    have L13 := L12.more ((Below.refl _ _).alloc (Nat.le_refl _) (.cells #[.int .i64 0, .int .i64 1] 30))
    have A13 := HA0.out _ L13.below
    go_upto_region 11 with (first
      | (refine wpList_load_rowG rfl 30 _ rfl w.heap.size rfl 30 _ (0, 0) _ A13 Try.underlying30 rfl (by kernel_rfl) ?_))
    have X14 := X13.alloc (.cells #[.int .i64 ca, .int .i64 la] 30)
    have Y14 := Y13.alloc (.cells #[.int .i64 ca, .int .i64 la] 30)
    have W14 := Blk.new (w12.alloc (.cells #[.int .i64 0, .int .i64 1] 30)) 30 #[.int .i64 ca, .int .i64 la]
    have HB14 := L13.below.alloc L13.below.size (.cells #[.int .i64 ca, .int .i64 la] 30)
    rw [World.size_alloc] at W14
    have hE1 : (ca == ca && la == la) = true := by simp
    have BB12 := L12.below.size
    clear X12 L12 L13 A13 X13 Y13 HMA HMB
    change Code.wp _ _ _ _ ((w12.alloc (.cells #[.int .i64 0, .int .i64 1] 30)).alloc (.cells #[.int .i64 ca, .int .i64 la] 30))
    generalize ((w12.alloc (.cells #[.int .i64 0, .int .i64 1] 30)).alloc (.cells #[.int .i64 ca, .int .i64 la] 30)) = w14 at *
    have HE := Lib.hid (HB0.out _ HB14)
    clear HB14 HA0 HC0 HB0
    go_wp2_with (first
      | (refine wpList_load_rowG rfl 30 _ rfl w9.heap.size rfl 30 _ (0, 0) _ X14 Try.underlying30 rfl (by kernel_rfl) ?_)
      | (refine wpList_load_rowG rfl 30 _ rfl w12.heap.size rfl 30 _ (0, 0) _ Y14 Try.underlying30 rfl (by kernel_rfl) ?_)
      | (refine wpList_load_rowG rfl 30 _ rfl (w12.heap.size + 1) rfl 30 _ (0, 0) _ W14 Try.underlying30 rfl (by kernel_rfl) ?_)
      | (refine wp_ms_eql _ _ _ rfl rfl _ _ _ _ rfl rfl ?_))
    go_ret
    exact ⟨rfl, HE.out⟩
  · obtain rfl : q = 1 := by omega
    clear hk2 hq
    have A5 := HA0.out _ L5.below
    go_wp2_with (refine wpList_load_rowG rfl 30 _ rfl w.heap.size rfl 30 _ (0, 0) _ A5 Try.underlying30 rfl (by kernel_rfl) ?_)
    refine (Lost12.call1 L5 HMA.out).mono ?_
    rintro e w6 ⟨rfl, F6, L6, _⟩
    clear L5 A5
    have C6 := HC0.out _ L6.below
    go_wp2_with (refine wpList_load_rowG rfl 30 _ rfl (w.heap.size + 1) rfl 30 _ (0, 0) _ C6 Try.underlying30 rfl (by kernel_rfl) ?_)
    refine (Lost12.call2 L6 HMB.out).mono ?_
    rintro e w7 ⟨rfl, F7, L7, _⟩
    clear L6 C6
    go_wp2_with fail
    refine (Lost12.call3 L7 1 (by decide)).mono ?_
    rintro e w8 ⟨rfl, L8, _⟩
    clear L7
    go_wp2_with fail
    refine (Lost12.call4 L8 cb lb 2 (Cd.lost_second cdM Lost12.fit0 HMB.out)).mono ?_
    rintro e w9 ⟨rfl, L9, hb9⟩
    clear L8 hb9
    go_wp2_with fail
    have X10 := Blk.new w9 30 #[.int .i64 cb, .int .i64 lb]
    have n10 : ¬ F7 w9.heap.size := fun h => Nat.lt_irrefl _ (L9.disk.lt _ h)
    have L10 := L9.more ((Below.refl _ _).alloc (Nat.le_refl _) (.cells #[.int .i64 cb, .int .i64 lb] 30))
    clear L9
    refine (Lost12.call5 L10 (by decide)).mono ?_
    rintro e w11 ⟨rfl, L11, S11⟩
    obtain ⟨X11, n11⟩ := step_apart S11 X10 n10
    clear X10 n10 L10 S11
    go_wp2_with fail
    refine (Lost12.call6 L11 (by decide)).mono ?_
    rintro e w12 ⟨rfl, L12, hb12⟩
    have X12 := X11.keep hb12 X11.lt
    clear L11 X11 hb12 n11
    have hz12 : w9.heap.size < w12.heap.size := X12.lt
    have X13 := X12.alloc (.cells #[.int .i64 0, .int .i64 1] 30)
    have Y13 := Blk.new w12 30 #[.int .i64 0, .int .i64 1]
    have L13 := L12.more ((Below.refl _ _).alloc (Nat.le_refl _) (.cells #[.int .i64 0, .int .i64 1] 30))
    have A13 := HA0.out _ L13.below
    go_upto_region 11 with (first
      | (refine wpList_load_rowG rfl 30 _ rfl w.heap.size rfl 30 _ (0, 0) _ A13 Try.underlying30 rfl (by kernel_rfl) ?_))
    have X14 := X13.alloc (.cells #[.int .i64 ca, .int .i64 la] 30)
    have Y14 := Y13.alloc (.cells #[.int .i64 ca, .int .i64 la] 30)
    have W14 := Blk.new (w12.alloc (.cells #[.int .i64 0, .int .i64 1] 30)) 30 #[.int .i64 ca, .int .i64 la]
    have HB14 := L13.below.alloc L13.below.size (.cells #[.int .i64 ca, .int .i64 la] 30)
    rw [World.size_alloc] at W14
    have hE1 : (cb == cb && lb == lb) = true := by simp
    have BB12 := L12.below.size
    clear X12 L12 L13 A13 X13 Y13 HMA HMB
    change Code.wp _ _ _ _ ((w12.alloc (.cells #[.int .i64 0, .int .i64 1] 30)).alloc (.cells #[.int .i64 ca, .int .i64 la] 30))
    generalize ((w12.alloc (.cells #[.int .i64 0, .int .i64 1] 30)).alloc (.cells #[.int .i64 ca, .int .i64 la] 30)) = w14 at *
    have C14 := HC0.out _ HB14
    have X15 := X14.farRow (show w9.heap.size ≠ w12.heap.size + 1 by omega) #[.int .i64 cb, .int .i64 lb]
    have Y15 := Y14.farRow (show w12.heap.size ≠ w12.heap.size + 1 by omega) #[.int .i64 cb, .int .i64 lb]
    have W15 := W14.setRow #[.int .i64 cb, .int .i64 lb]
    have HE := Lib.hid (HB0.out _ (below_setRow HB14 (show w1.heap.size ≤ w12.heap.size + 1 by have := BB12; omega) #[.int .i64 cb, .int .i64 lb]))
    clear HB14 HA0 HC0 HB0 BB12
    go_upto_region 13 with (first
      | (refine wpList_load_rowG rfl 30 _ rfl (w.heap.size + 1) rfl 30 _ (0, 0) _ C14 Try.underlying30 rfl (by kernel_rfl) ?_)
      | (refine wpList_store_row rfl 30 _ _ rfl (w12.heap.size + 1) _ rfl rfl 30 _ W14 (by kernel_rfl) (by simp) (by simp [Value.oneCell']) ?_))
    clear C14 W14 X14 Y14
    generalize w14.setRow (w12.heap.size + 1) #[.int .i64 cb, .int .i64 lb] = w15 at *
    go_wp2_with (first
      | (refine wpList_load_rowG rfl 30 _ rfl w9.heap.size rfl 30 _ (0, 0) _ X15 Try.underlying30 rfl (by kernel_rfl) ?_)
      | (refine wpList_load_rowG rfl 30 _ rfl w12.heap.size rfl 30 _ (0, 0) _ Y15 Try.underlying30 rfl (by kernel_rfl) ?_)
      | (refine wpList_load_rowG rfl 30 _ rfl (w12.heap.size + 1) rfl 30 _ (0, 0) _ W15 Try.underlying30 rfl (by kernel_rfl) ?_)
      | (refine wp_ms_eql _ _ _ rfl rfl _ _ _ _ rfl rfl ?_))
    go_ret
    exact ⟨rfl, HE.out⟩
end Go.Proofs.Ytbjpnkjddfpmpaa
