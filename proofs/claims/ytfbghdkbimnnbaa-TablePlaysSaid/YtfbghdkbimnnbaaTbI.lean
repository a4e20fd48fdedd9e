/- A table made since a world; two lists of rows (careenref10.SameRows). -/
import Derived.Test.YtfbghdkbimnnbaaTbH
namespace Go.Proofs.Ytfbghdkbimnnbaa
open Go.RowKit

/-- A table made since w0. -/
structure LiveT (w0 w : World) (F : Foot) (q : Nat) (l : Tb) : Prop where
  tab : IsTab w F q l
  newF : ∀ b, F b → w0.heap.size ≤ b
  below : Below w0.heap.size w0 w
namespace LiveT
variable {w0 w w' : World} {F F' : Foot} {q : Nat} {l l' : Tb}
theorem more (h : LiveT w0 w F q l) (hb : Below w.heap.size w w') : LiveT w0 w' F q l := ⟨h.tab.below hb, h.newF, below2 h.below hb⟩
theorem step (h : LiveT w0 w F q l) (hl : IsTab w' F' q l') (hs : Step F F' w w') : LiveT w0 w' F' q l' :=
  ⟨hl, fun b hb => (hs.foot b hb).elim (h.newF b) fun g => Nat.le_trans h.below.size g, hs.belowB h.newF h.below h.below.size⟩
theorem make (hb : Below w0.heap.size w0 w) : Calls Try.prog 9 #[] w fun e w' => ∃ F q, e = .returned (.pointer (some ⟨q, 0, none⟩)) ∧ LiveT w0 w' F q [] := by
  refine (tbNew_any w).mono ?_
  rintro e w1 ⟨rfl, hl, hb1⟩
  exact ⟨_, _, rfl, hl, fun b e => by rw [e]; exact hb.size, below2 hb hb1⟩
/-- What a call that writes leaves. -/
def Out (w0 w : World) (F : Foot) (q : Nat) (l : Tb) (v : Value) (e : Ending) (w' : World) : Prop := ∃ F', e = .returned v ∧ LiveT w0 w' F' q l ∧ Step F F' w w'
theorem out {f : Nat} {args : Array Value} {v : Value} (h : LiveT w0 w F q l) (hc : Calls Try.prog f args w (OutT w F q l' v)) : Calls Try.prog f args w (Out w0 w F q l' v) := by
  refine hc.mono ?_
  rintro e w1 ⟨F1, rfl, hl, hs⟩
  exact ⟨F1, rfl, h.step hl hs, hs⟩
theorem begin (h : LiveT w0 w F q l) (t : Int) : Calls Try.prog 10 #[.pointer (some ⟨q, 0, none⟩), .int .i64 t] w (Out w0 w F q (l.beginT t).1 (.int .i64 (l.beginT t).2)) := h.out (tbBegin_any h.tab t)
theorem log (h : LiveT w0 w F q l) (t a : Int) : Calls Try.prog 12 #[.pointer (some ⟨q, 0, none⟩), .int .i64 t, .int .i64 a] w (Out w0 w F q (l.logT t a).1 (.int .i64 (l.logT t a).2)) := h.out (tbLog_any h.tab t a)
theorem left (h : LiveT w0 w F q l) (t d : Int) : Calls Try.prog 14 #[.pointer (some ⟨q, 0, none⟩), .int .i64 t, .int .i64 d] w (Out w0 w F q (l.leftT t d).1 (.int .i64 (l.leftT t d).2)) := h.out (tbLeft_any h.tab t d)
theorem mark (h : LiveT w0 w F q l) (t k : Int) : Calls Try.prog 16 #[.pointer (some ⟨q, 0, none⟩), .int .i64 t, .int .i64 k] w (Out w0 w F q (l.markT t k).1 (.tuple #[.int .i64 (l.markT t k).2.1, .int .i64 (l.markT t k).2.2])) := h.out (tbMark_any h.tab t k)
theorem back (h : LiveT w0 w F q l) (t k : Int) : Calls Try.prog 18 #[.pointer (some ⟨q, 0, none⟩), .int .i64 t, .int .i64 k] w (Out w0 w F q (l.backT t k).1 (.tuple #[.int .i64 (l.backT t k).2.1.1, .int .i64 (l.backT t k).2.1.2, .int .i64 (l.backT t k).2.2])) := h.out (tbBack_any h.tab t k)
theorem end_ (h : LiveT w0 w F q l) (t : Int) : Calls Try.prog 20 #[.pointer (some ⟨q, 0, none⟩), .int .i64 t] w (Out w0 w F q (l.endT t).1 (.int .i64 (l.endT t).2)) := h.out (tbEnd_any h.tab t)
theorem row (h : LiveT w0 w F q l) (t : Int) : Calls Try.prog 22 #[.pointer (some ⟨q, 0, none⟩), .int .i64 t] w fun e w' => e = .returned (.tuple #[.agg (rwCells (l.rowT t).1), .int .i64 (l.rowT t).2.1, .int .i64 (l.rowT t).2.2]) ∧ LiveT w0 w' F q l ∧ Below w.heap.size w w' := by
  refine (tbRow_any h.tab t).mono ?_
  rintro e w1 ⟨rfl, hb⟩
  exact ⟨rfl, h.more hb, hb⟩
theorem need (h : LiveT w0 w F q l) : Calls Try.prog 27 #[.pointer (some ⟨q, 0, none⟩)] w fun e w' => e = .returned (.int .i64 l.need) ∧ LiveT w0 w' F q l ∧ Below w.heap.size w w' := by
  refine (tbNeed_any h.tab).mono ?_
  rintro e w1 ⟨rfl, hb⟩
  exact ⟨rfl, h.more hb, hb⟩
theorem rows (h : LiveT w0 w F q l) : Calls Try.prog 25 #[.pointer (some ⟨q, 0, none⟩)] w fun e w' => ∃ a cap, e = .returned (.slice a l.rows.length cap) ∧ RowsAt w' a cap l.rows ∧ LiveT w0 w' F q l ∧ Below w.heap.size w w' := by
  refine (tbRows_any h.tab).mono ?_
  rintro e w1 ⟨a, cap, rfl, hr, hb⟩
  exact ⟨a, cap, rfl, hr, h.more hb, hb⟩
end LiveT
set_option maxRecDepth 100000 in
set_option maxHeartbeats 1000000 in
/-- Rows that are compared. -/
theorem row_ne (a b c x y z : Int) (w : World) : (binOp BinOp.neq 46 (.agg #[.int .i64 a, .int .i64 b, .int .i64 c]) (.agg #[.int .i64 x, .int .i64 y, .int .i64 z])).run Try.prog w = .ok (.bool (!(a == x && (b == y && c == z)))) w := by
  go_simp
  by_cases h1 : a = x <;> by_cases h2 : b = y <;> by_cases h3 : c = z <;> simp [h1, h2, h3]
section
set_option maxRecDepth 100000 in
set_option maxHeartbeats 8000000 in
theorem refSame10_any {w : World} (a b : Option Addr) (ca cb : Nat) (l : List (Int × Int × Int)) (ha : RowsAt w a ca l) (hb : RowsAt w b cb l) (hl : l.length ≤ 1000) :
    Calls Try.prog 24 #[.slice a l.length ca, .slice b l.length cb] w fun e w' => e = .returned (.bool true) ∧ Below w.heap.size w w' := by
  have HA := Lib.hid ha
  have HB := Lib.hid hb
  have hlm : (l.length : Int) ≤ 9223372036854775807 := by omega
  clear ha hb
  go_enter Try.func24, Try.ntmps24
  go_wp2
  go_loopw [5] (fun i wr => ∃ k : Nat, k ≤ l.length ∧ i = .int .i64 k ∧ Below w.heap.size w wr) (fun i _ => (l.length - intOf i).toNat)
  case atStart => exact ⟨0, Nat.zero_le _, rfl, Below.refl _ _⟩
  case round =>
    obtain ⟨k, hk, rfl, hB⟩ := hrel
    by_cases hlt : k < l.length
    · have hv : l[k]? = some l[k] := List.getElem?_eq_getElem hlt
      have hA := HA.out.below hB
      have hBB := HB.out.below hB
      obtain ⟨g1, o1, rfl, x0, x1, x2⟩ := hA.2 k _ hv
      obtain ⟨g2, o2, rfl, y0, y1, y2⟩ := hBB.2 k _ hv
      have hc1 := hA.1
      have hc2 := hBB.1
      have HBW := Lib.hid hB
      have HLT := Lib.hid hlt
      have hlt' : (k : Int) < l.length := by omega
      clear hv hB hA hBB
      generalize l[k] = p at *
      have hne := fun w => row_ne p.1 p.2.1 p.2.2 p.1 p.2.1 p.2.2 w
      simp only [BEq.rfl, Bool.and_self, Bool.not_true] at hne
      obtain ⟨p1, p2, p3⟩ := p
      simp only at *
      go_wp2
      go_region
      go_wp2
      exact ⟨⟨k + 1, HLT.out, by go_num, by first | exact HBW.out | exact HBW.out.drew⟩, by simp [intOf]; have := HLT.out; omega⟩
    · obtain rfl : k = l.length := by omega
      go_wp2
      go_ret
      exact ⟨rfl, hB⟩
end
end Go.Proofs.Ytfbghdkbimnnbaa
