/- A drawn region within a round, walked order by order, each operation as a list of one: so the laws of lists of operations (append) serve it. Nothing of the program is imported. -/
import Derived.OrdersIn
import Derived.TacticsIn
import Derived.OwnWalkIn
import Derived.Test.YtecalnglidjmgaaBase
namespace Go.Proofs.Ytecalnglidjmgaa
open Go.RowKit

section
variable {F : Fence} {n : Nat} {P : Program} {ops : Array Oper} {Q : Exit → Act → World → Prop} {md : Region.Mode}
theorem wpIn_then {o : Oper} {a : Act} {w : World} {K K2 : Act → World → Prop} (h : o.wpIn F n P a w K (Exit.then K2 Q)) : o.wpIn F n P a w K Q := by
  unfold Oper.wpIn at *
  refine ⟨h.1, ?_⟩
  have hh := h.2
  clear h
  generalize (o.semAt F.round a.eval).run P w = r at *
  cases r with
  | ok x w' => cases x <;> exact hh
  | halt x w' => cases x <;> exact hh
/-- One that may come first, and the others. -/
theorem ready_cons {fuel : Nat} {listed : Array Bool} {a : Act} {w : World} {i : Nat} {o : Oper} {rs : List Nat} (ho : ops[i]? = some o)
    (h : wpListIn F n P ops (Exit.then (wpAnyIn F n P md ops Q fuel (listed.setIfInBounds i true)) Q) [o] a w)
    (hs : AllReadyIn F n P md ops Q fuel listed a w rs) : AllReadyIn F n P md ops Q fuel listed a w (i :: rs) :=
  AllReadyIn.cons ho (fun K' hK => by
    unfold wpListIn at h
    by_cases hw : Region.wanted o (yielded ops a.tmps) = true
    · rw [if_pos hw] at h ⊢
      exact Oper.wpIn_mono hK (wpIn_then h)
    · rw [if_neg hw] at h ⊢
      exact ⟨h.1, hK _ _ h.2⟩) hs
/-- The only one that may come. -/
theorem ready_one {fuel : Nat} {listed : Array Bool} {a : Act} {w : World} {i : Nat} {o : Oper} (hr : Region.ready md ops listed = [i]) (ho : ops[i]? = some o)
    (h : wpListIn F n P ops (Exit.then (wpAnyIn F n P md ops Q fuel (listed.setIfInBounds i true)) Q) [o] a w) : wpAnyIn F n P md ops Q (fuel + 1) listed a w :=
  wpAnyIn_ready hr (by simp) (ready_cons ho h AllReadyIn.nil)
/-- Two that may come. -/
theorem ready_two {fuel : Nat} {listed : Array Bool} {a : Act} {w : World} {i j : Nat} {o o' : Oper} (hr : Region.ready md ops listed = [i, j]) (ho : ops[i]? = some o) (ho' : ops[j]? = some o')
    (h : wpListIn F n P ops (Exit.then (wpAnyIn F n P md ops Q fuel (listed.setIfInBounds i true)) Q) [o] a w)
    (h' : wpListIn F n P ops (Exit.then (wpAnyIn F n P md ops Q fuel (listed.setIfInBounds j true)) Q) [o'] a w) : wpAnyIn F n P md ops Q (fuel + 1) listed a w :=
  wpAnyIn_ready hr (by simp) (ready_cons ho h (ready_cons ho' h' AllReadyIn.nil))
end
end Go.Proofs.Ytecalnglidjmgaa
