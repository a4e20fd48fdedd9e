/- Package page: the small calls: what fits, which records change pages. -/
import Derived.Test.YtkodnjefdophmaaPgA
import Derived.Test.YtkodnjefdophmaaRecM
namespace Go.Proofs.Ytkodnjefdophmaa
open Go.RowKit

/-- Does a page have n bytes from o on? -/
def InPage (o n : Int) : Prop := 0 ≤ o ∧ 0 ≤ n ∧ o + n ≤ 220
instance (o n : Int) : Decidable (InPage o n) := inferInstanceAs (Decidable (_ ∧ _))
/-- Does a record change pages? -/
def Chg (r : Rc) : Prop := r.kind = 1 ∨ r.kind = 2
instance (r : Rc) : Decidable (Chg r) := inferInstanceAs (Decidable (_ ∨ _))
set_option maxRecDepth 100000 in
theorem pgFits_any (o n : Int) (w : World) (hn' : (Lit.int .i64 n).wf = true) (yes : Bool) (hy : yes = decide (InPage o n)) : Calls Try.prog 35 #[.int .i64 o, .int .i64 n] w fun e w' => e = .returned (.bool yes) ∧ w = w' := by
  have HY := Lib.hid hy
  clear hy
  have hw : 0 ≤ n → IntKind.i64.wrap (220 - n) = 220 - n := fun h => by
    have h2 : n ≤ 9223372036854775807 := by
      simp [Lit.wf, IntKind.min, IntKind.max, IntKind.signed, IntKind.bits] at hn'; omega
    rw [IntKind.wrap_i64]; omega
  clear hn'
  go_enter Try.func35, Try.ntmps35
  by_cases h0 : (0 : Int) ≤ o
  · by_cases h1 : (0 : Int) ≤ n
    · replace hw := hw h1
      go_wp2
      go_ret
      refine ⟨?_, rfl⟩
      rw [HY.out]
      refine bool_out ?_
      unfold InPage
      simp
      try omega
    · clear hw
      go_wp2
      go_ret
      refine ⟨?_, rfl⟩
      rw [HY.out]
      refine bool_out ?_
      unfold InPage
      simp
      try omega
  · clear hw
    go_wp2
    all_goals
      go_ret
      refine ⟨?_, rfl⟩
      rw [HY.out]
      refine bool_out ?_
      unfold InPage
      simp
      try omega

set_option maxRecDepth 100000 in
theorem pgChanges_any {w : World} {v : Value} {r : Rc} (hv : IsRec w v r) (yes : Bool) (hy : yes = decide (Chg r)) : Calls Try.prog 33 #[v] w fun e w' => e = .returned (.bool yes) ∧ Below w.heap.size w w' := by
  obtain ⟨vt, vp, rfl, hl⟩ := hv
  obtain ⟨ta, tc, e⟩ := hl.t.form
  subst e
  obtain ⟨pa, pc, e⟩ := hl.p.form
  subst e
  have HY := Lib.hid hy
  clear hy hl
  unfold recV recCells
  go_enter Try.func33, Try.ntmps33
  by_cases h0 : r.kind = 1
  all_goals
    go_wp2
    go_ret
    refine ⟨?_, (Below.refl _ _).alloc (Nat.le_refl _) _⟩
    rw [HY.out]
    refine bool_out ?_
    unfold Chg
    simp [h0]
end Go.Proofs.Ytkodnjefdophmaa
