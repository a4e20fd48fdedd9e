/- Equal rows of pages (careenref08.SameRows). -/
import Derived.Test.YtgjkhjlobfblcaaRecM
import Derived.Test.YtgjkhjlobfblcaaRegion
namespace Go.Proofs.Ytgjkhjlobfblcaa
open Go.RowKit

theorem rows2_get (L : List (Int × Int)) (j : Nat) (hj : j < L.length) : (rows2 L)[j * 2]? = some (.int .i64 L[j].1) ∧ (rows2 L)[j * 2 + 1]? = some (.int .i64 L[j].2) := by
  induction L generalizing j with
  | nil => simp at hj
  | cons x L ih =>
    show (cells2 x ++ rows2 L)[j * 2]? = _ ∧ (cells2 x ++ rows2 L)[j * 2 + 1]? = _
    cases j with
    | zero => exact ⟨rfl, rfl⟩
    | succ j =>
      have := ih j (by simpa using hj)
      have e : (cells2 x).length = 2 := rfl
      rw [List.getElem?_append_right (by omega), List.getElem?_append_right (by omega), e, show (j + 1) * 2 - 2 = j * 2 by omega, show (j + 1) * 2 + 1 - 2 = j * 2 + 1 by omega]
      exact this
theorem row2_ne (a b : Int) (w : World) : (binOp BinOp.neq 42 (.agg #[.int .i64 a, .int .i64 b]) (.agg #[.int .i64 a, .int .i64 b])).run Try.prog w = .ok (.bool false) w := by
  go_simp
section
set_option maxRecDepth 100000 in
set_option maxHeartbeats 8000000 in
theorem rqSameE {w : World} {v1 v2 : Value} {L : List (Int × Int)} (h1 : Elems w v1 L.length (rows2 L)) (h2 : Elems w v2 L.length (rows2 L)) (hl : L.length ≤ 1000000) :
    Calls Try.prog 10 #[v1, v2] w fun e w' => e = .returned (.bool true) ∧ Below w.heap.size w w' := by
  obtain ⟨a1, k1, rfl⟩ := h1.form
  obtain ⟨a2, k2, rfl⟩ := h2.form
  have H1 := Lib.hid h1
  have H2 := Lib.hid h2
  have hlI : (L.length : Int) ≤ 1000000 := by omega
  have HBB := Lib.hid (Below.refl w.heap.size w)
  clear h1 h2 hl
  go_enter Try.func10, Try.ntmps10
  go_wp2_with fail
  go_loopw [5] (fun vj wr => ∃ j : Nat, vj = .int .i64 j ∧ j ≤ L.length ∧ Below w.heap.size w wr) (fun vj _ => L.length - (intOf vj).toNat)
  case atStart => exact ⟨0, rfl, Nat.zero_le _, HBB.out⟩
  case round =>
    obtain ⟨j, rfl, hjl, hb⟩ := hrel
    have HB := Lib.hid hb
    clear hb
    by_cases hlt : j < L.length
    · have hj1 : (j : Int) < L.length := by omega
      have hj0 : (0 : Int) ≤ (j : Int) := by omega
      have hne : L ≠ [] := fun e => by rw [e] at hlt; simp at hlt
      obtain ⟨b1, o1, c1, e1, _, _, l1, g1⟩ := Elems.at2 (l := L) (H1.out.keep HB.out) hne
      obtain ⟨b2, o2, c2, e2, _, _, l2, g2⟩ := Elems.at2 (l := L) (H2.out.keep HB.out) hne
      obtain ⟨rfl, _, rfl⟩ := Value.slice.inj e1
      obtain ⟨rfl, _, rfl⟩ := Value.slice.inj e2
      clear e1 e2
      have C := And.intro (g1 j hlt) (g2 j hlt)
      obtain ⟨⟨d0, d1⟩, e0, e1⟩ := C
      clear g1 g2
      generalize L[j].1 = x at *
      generalize L[j].2 = y at *
      have hne2 := row2_ne x y
      go_wp2_with (go_quiet (fail))
      exact ⟨⟨j + 1, by go_num, by omega, HB.out.trans (belowN (Below.refl _ _) _)⟩, by simp [intOf]; omega⟩
    · obtain rfl : j = L.length := by omega
      go_wp2
      go_ret
      exact ⟨rfl, HB.out⟩
theorem rqSame_any {w : World} {B1 B2 : Nat} {v1 v2 : Value} {L : List (Int × Int)} (h1 : w.ownsRow B1 42 2 v1 L.length (rows2 L)) (h2 : w.ownsRow B2 42 2 v2 L.length (rows2 L)) (hl : L.length ≤ 100) :
    Calls Try.prog 10 #[v1, v2] w fun e w' => e = .returned (.bool true) ∧ Below w.heap.size w w' := rqSameE (Elems.ofOwn h1) (Elems.ofOwn h2) (by omega)
end
end Go.Proofs.Ytgjkhjlobfblcaa
