/- Package page, and the document's own: the small calls: which pages may be, what fits, which records change pages. -/
import Derived.Test.YtjnnkbbgeckgkaaRec
import Derived.Test.YtjnnkbbgeckgkaaRecM
namespace Go.Proofs.Ytjnnkbbgeckgkaa
open Go.RowKit

/-- May a page be? -/
def PgOk (a : Int) (d : ByteArray) : Prop := Num a ∧ d.size = 220
instance (a : Int) (d : ByteArray) : Decidable (PgOk a d) := inferInstanceAs (Decidable (_ ∧ _))
/-- Does a page have n bytes from o on? -/
def InPage (o n : Int) : Prop := 0 ≤ o ∧ 0 ≤ n ∧ o + n ≤ 220
instance (o n : Int) : Decidable (InPage o n) := inferInstanceAs (Decidable (_ ∧ _))
/-- Does a record change pages? -/
def Chg (r : Rc) : Prop := r.kind = 1 ∨ r.kind = 2
instance (r : Rc) : Decidable (Chg r) := inferInstanceAs (Decidable (_ ∨ _))

/-- A truth that is handed back. -/
theorem bool_out {x : Bool} {p : Prop} [Decidable p] (h : x = true ↔ p) : Ending.returned (.bool x) = Ending.returned (.bool (decide p)) := by
  rw [show x = decide p from by rw [Bool.eq_iff_iff, h]; simp]

section
variable (a o n : Int) (d : ByteArray) (w : World)
theorem mayPlace_any (yes : Bool) (hy : yes = decide (Num a)) : Calls Try.prog 25 #[.int .i64 a] w fun e w' => e = .returned (.bool yes) ∧ w = w' := by
  have HY := Lib.hid hy
  clear hy
  go_enter Try.func25, Try.ntmps25
  by_cases h0 : (0 : Int) ≤ a
  all_goals
    go_wp2
    go_ret
    refine ⟨?_, rfl⟩
    rw [HY.out]
    refine bool_out ?_
    unfold Num
    simp
    try omega

set_option maxRecDepth 100000 in
theorem fits_any (hn' : (Lit.int .i64 n).wf = true) (yes : Bool) (hy : yes = decide (InPage o n)) : Calls Try.prog 26 #[.int .i64 o, .int .i64 n] w fun e w' => e = .returned (.bool yes) ∧ w = w' := by
  have HY := Lib.hid hy
  clear hy
  have hw : 0 ≤ n → IntKind.i64.wrap (220 - n) = 220 - n := fun h => by
    have h2 : n ≤ 9223372036854775807 := by
      simp [Lit.wf, IntKind.min, IntKind.max, IntKind.signed, IntKind.bits] at hn'; omega
    rw [IntKind.wrap_i64]; omega
  clear hn'
  go_enter Try.func26, Try.ntmps26
  by_cases h0 : (0 : Int) ≤ o
  · by_cases h1 : (0 : Int) ≤ n
    · replace hw := hw h1
      go_wp2
      go_ret
      refine ⟨?_, rfl⟩
      rw [HY.out]
      refine bool_out ?_
      unfold InPage
      simp
      try omega
    · clear hw
      go_wp2
      go_ret
      refine ⟨?_, rfl⟩
      rw [HY.out]
      refine bool_out ?_
      unfold InPage
      simp
      try omega
  · clear hw
    go_wp2
    all_goals
      go_ret
      refine ⟨?_, rfl⟩
      rw [HY.out]
      refine bool_out ?_
      unfold InPage
      simp
      try omega

set_option maxRecDepth 100000 in
theorem right_any (yes : Bool) (hy : yes = decide (PgOk a d)) : Calls Try.prog 14 #[.agg #[.int .i64 a, .string d]] w fun e w' => e = .returned (.bool yes) ∧ Below w.heap.size w w' := by
  have HY := Lib.hid hy
  clear hy
  have M := Lib.hid (fun W => mayPlace_any a W _ rfl)
  go_enter Try.func14, Try.ntmps14
  go_wp2_with fail
  refine (M.out _).mono ?_
  rintro e w1 ⟨rfl, rfl⟩
  by_cases h0 : Num a
  · rw [decide_eq_true h0]
    go_wp2
    go_ret
    refine ⟨?_, (Below.refl _ _).alloc (Nat.le_refl _) _⟩
    rw [HY.out]
    refine bool_out ?_
    unfold PgOk
    simp [h0]
    try omega
  · rw [decide_eq_false h0]
    go_wp2
    go_ret
    refine ⟨?_, (Below.refl _ _).alloc (Nat.le_refl _) _⟩
    rw [HY.out]
    refine bool_out ?_
    unfold PgOk
    simp [h0]

set_option maxRecDepth 100000 in
theorem refRight_any (yes : Bool) (hy : yes = decide (PgOk a d)) : Calls Try.prog 15 #[.agg #[.int .i64 a, .string d]] w fun e w' => e = .returned (.bool yes) ∧ Below w.heap.size w w' := by
  have HY := Lib.hid hy
  clear hy
  go_enter Try.func15, Try.ntmps15
  by_cases h0 : (0 : Int) ≤ a
  · by_cases h1 : a ≤ (2147483647 : Int)
    all_goals
      go_wp2
      go_ret
      refine ⟨?_, (Below.refl _ _).alloc (Nat.le_refl _) _⟩
      rw [HY.out]
      refine bool_out ?_
      unfold PgOk Num
      simp
      try omega
  · go_wp2
    go_ret
    refine ⟨?_, (Below.refl _ _).alloc (Nat.le_refl _) _⟩
    rw [HY.out]
    refine bool_out ?_
    unfold PgOk Num
    simp
    try omega
end
set_option maxRecDepth 100000 in
theorem changes_any {w : World} {v : Value} {r : Rc} (hv : IsRec w v r) (yes : Bool) (hy : yes = decide (Chg r)) : Calls Try.prog 32 #[v] w fun e w' => e = .returned (.bool yes) ∧ Below w.heap.size w w' := by
  obtain ⟨vt, vp, rfl, hl⟩ := hv
  obtain ⟨ta, tc, e⟩ := hl.t.form
  subst e
  obtain ⟨pa, pc, e⟩ := hl.p.form
  subst e
  have HY := Lib.hid hy
  clear hy hl
  unfold recV recCells
  go_enter Try.func32, Try.ntmps32
  by_cases h0 : r.kind = 1
  all_goals
    go_wp2
    go_ret
    refine ⟨?_, (Below.refl _ _).alloc (Nat.le_refl _) _⟩
    rw [HY.out]
    refine bool_out ?_
    unfold Chg
    simp [h0]
end Go.Proofs.Ytjnnkbbgeckgkaa
