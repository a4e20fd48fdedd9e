/- careenref04: records small enough. -/
import Derived.Test.YtpcfhpffbogjmaaRecM
namespace Go.Proofs.Ytpcfhpffbogjmaa
open Go.RowKit

theorem fit_iff (r : Rc) : Fit r ↔ (r.before.size ≤ 300 ∧ r.after.size ≤ 300 ∧ r.txns.length ≤ 50 ∧ r.pages.length ≤ 50) := ⟨fun h => ⟨h.before, h.after, h.txns, h.pages⟩, fun h => ⟨h.1, h.2.1, h.2.2.1, h.2.2.2⟩⟩

set_option maxRecDepth 100000 in
set_option maxHeartbeats 4000000 in
theorem few_yes {w : World} {v : Value} {r : Rc} (hv : IsRec w v r) (hf : Fit r) :
    Calls Try.prog 29 #[v] w fun e w' => e = .returned (.bool true) ∧ Below w.heap.size w w' := by
  obtain ⟨vt, vp, rfl, hl⟩ := hv
  obtain ⟨ta, tc, e⟩ := hl.t.form
  subst e
  obtain ⟨pa, pc, e⟩ := hl.p.form
  subst e
  obtain ⟨f1, f2, f3, f4⟩ := hf
  have g1 : (r.before.size : Int) ≤ 300 := by omega
  have g2 : (r.after.size : Int) ≤ 300 := by omega
  have g3 : (r.txns.length : Int) ≤ 50 := by omega
  have g4 : (r.pages.length : Int) ≤ 50 := by omega
  clear hl
  unfold recV recCells
  go_enter Try.func29, Try.ntmps29
  go_wp2
  go_ret
  exact ⟨rfl, (Below.refl _ _).alloc (Nat.le_refl _) _⟩

set_option maxRecDepth 100000 in
set_option maxHeartbeats 4000000 in
theorem few_no {w : World} {v : Value} {r : Rc} (hv : IsRec w v r) (hs : r.before.size ≤ maxLen ∧ r.after.size ≤ maxLen) (hf : ¬ Fit r) :
    Calls Try.prog 29 #[v] w fun e w' => e = .returned (.bool false) ∧ Below w.heap.size w w' := by
  obtain ⟨vt, vp, rfl, hl⟩ := hv
  obtain ⟨ta, tc, e⟩ := hl.t.form
  subst e
  obtain ⟨pa, pc, e⟩ := hl.p.form
  subst e
  rw [fit_iff] at hf
  have HF := Lib.hid hf
  have h3 := hl.t.le
  have h4 := hl.p.le
  obtain ⟨h1, h2⟩ := hs
  unfold maxLen at h1 h2 h3 h4
  clear hl hf
  unfold recV recCells
  go_enter Try.func29, Try.ntmps29
  go_wp2
  all_goals first
    | (go_ret; exact ⟨rfl, (Below.refl _ _).alloc (Nat.le_refl _) _⟩)
    | (go_ret; have hff := HF.out; refine ⟨?_, (Below.refl _ _).alloc (Nat.le_refl _) _⟩; show Ending.returned (.bool (decide _)) = _; rw [decide_eq_false (by omega)])
end Go.Proofs.Ytpcfhpffbogjmaa
