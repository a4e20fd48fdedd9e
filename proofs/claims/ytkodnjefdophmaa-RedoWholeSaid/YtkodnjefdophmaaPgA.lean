/- Package page, and the document's own: the small calls: which pages may be. -/
import Derived.Test.YtkodnjefdophmaaRec
import Derived.Test.YtkodnjefdophmaaBytes
namespace Go.Proofs.Ytkodnjefdophmaa
open Go.RowKit

/-- May a page be? -/
def PgOk (a : Int) (d : ByteArray) : Prop := Num a ∧ d.size = 220
instance (a : Int) (d : ByteArray) : Decidable (PgOk a d) := inferInstanceAs (Decidable (_ ∧ _))
/-- A truth that is handed back. -/
theorem bool_out {x : Bool} {p : Prop} [Decidable p] (h : x = true ↔ p) : Ending.returned (.bool x) = Ending.returned (.bool (decide p)) := by
  rw [show x = decide p from by rw [Bool.eq_iff_iff, h]; simp]

section
variable (a : Int) (d : ByteArray) (w : World)
theorem pgMayPlace_any (yes : Bool) (hy : yes = decide (Num a)) : Calls Try.prog 32 #[.int .i64 a] w fun e w' => e = .returned (.bool yes) ∧ w = w' := by
  have HY := Lib.hid hy
  clear hy
  go_enter Try.func32, Try.ntmps32
  by_cases h0 : (0 : Int) ≤ a
  all_goals
    go_wp2
    go_ret
    refine ⟨?_, rfl⟩
    rw [HY.out]
    refine bool_out ?_
    unfold Num
    simp
    try omega

set_option maxRecDepth 100000 in
theorem pgRight_any (yes : Bool) (hy : yes = decide (PgOk a d)) : Calls Try.prog 28 #[.agg #[.int .i64 a, .string d]] w fun e w' => e = .returned (.bool yes) ∧ Below w.heap.size w w' := by
  have HY := Lib.hid hy
  clear hy
  have M := Lib.hid (fun W => pgMayPlace_any a W _ rfl)
  go_enter Try.func28, Try.ntmps28
  go_wp2_with fail
  refine (M.out _).mono ?_
  rintro e w1 ⟨rfl, rfl⟩
  by_cases h0 : Num a
  · rw [decide_eq_true h0]
    go_wp2
    go_ret
    refine ⟨?_, (Below.refl _ _).alloc (Nat.le_refl _) _⟩
    rw [HY.out]
    refine bool_out ?_
    unfold PgOk
    simp [h0]
    try omega
  · rw [decide_eq_false h0]
    go_wp2
    go_ret
    refine ⟨?_, (Below.refl _ _).alloc (Nat.le_refl _) _⟩
    rw [HY.out]
    refine bool_out ?_
    unfold PgOk
    simp [h0]

set_option maxRecDepth 100000 in
theorem pgRefRight_any (yes : Bool) (hy : yes = decide (PgOk a d)) : Calls Try.prog 25 #[.agg #[.int .i64 a, .string d]] w fun e w' => e = .returned (.bool yes) ∧ Below w.heap.size w w' := by
  have HY := Lib.hid hy
  clear hy
  go_enter Try.func25, Try.ntmps25
  by_cases h0 : (0 : Int) ≤ a
  · by_cases h1 : a ≤ (2147483647 : Int)
    all_goals
      go_wp2
      go_ret
      refine ⟨?_, (Below.refl _ _).alloc (Nat.le_refl _) _⟩
      rw [HY.out]
      refine bool_out ?_
      unfold PgOk Num
      simp
      try omega
  · go_wp2
    go_ret
    refine ⟨?_, (Below.refl _ _).alloc (Nat.le_refl _) _⟩
    rw [HY.out]
    refine bool_out ?_
    unfold PgOk Num
    simp
    try omega
end
end Go.Proofs.Ytkodnjefdophmaa
