/- Pages with places as plain data: what page.Apply makes of a page (apP, P6.3), as an instance of Ap. Nothing of the program is imported. -/
import Derived.Test.YtkodnjefdophmaaRdA
import Derived.Test.YtkodnjefdophmaaPgPl
namespace Go.Proofs.Ytkodnjefdophmaa
namespace Hs

abbrev Pge := Int × ByteArray
def RightP (p : Pge) : Prop := Num p.1 ∧ p.2.size = 220
instance (p : Pge) : Decidable (RightP p) := inferInstanceAs (Decidable (_ ∧ _))
def Chg16 (r : Rc) : Prop := r.kind = 1 ∨ r.kind = 2
instance (r : Rc) : Decidable (Chg16 r) := inferInstanceAs (Decidable (_ ∨ _))
def SpotP (r : Rc) : Prop := 0 ≤ r.off ∧ r.off + r.after.size ≤ 220
instance (r : Rc) : Decidable (SpotP r) := inferInstanceAs (Decidable (_ ∧ _))
/-- What a record at a place makes of a page (P6.3). -/
def apP (p : Pge) (x : Int) (r : Rc) : Pge := if Chg16 r ∧ p.1 < x ∧ RightP p ∧ Num x ∧ SpotP r then (x, putS p.2 r.off.toNat r.after) else p
theorem apP_yes {p : Pge} {x : Int} {r : Rc} (h1 : Chg16 r) (h2 : p.1 < x) (h3 : RightP p) (h4 : Num x) (h5 : SpotP r) : apP p x r = (x, putS p.2 r.off.toNat r.after) := if_pos ⟨h1, h2, h3, h4, h5⟩
theorem apP_kind {p : Pge} {x : Int} {r : Rc} (h : ¬ Chg16 r) : apP p x r = p := if_neg fun k => h k.1
theorem apP_right {p : Pge} {x : Int} {r : Rc} (h : RightP p) : RightP (apP p x r) := by
  unfold apP
  split
  · rename_i k
    obtain ⟨_, _, _, k4, k5⟩ := k
    refine ⟨k4, ?_⟩
    show (putS _ _ _).size = 220
    have h5 := k5.1
    have h6 := k5.2
    rw [putS_size (by rw [h.2]; omega)]
    exact h.2
  · exact h
def apA : Ap where
  P := Pge
  ap := apP
  at_ := Prod.fst
  cases := fun p x r => by
    unfold apP
    split
    · rename_i k; exact .inr ⟨k.2.1, rfl⟩
    · exact .inl rfl
def noughtsP : ByteArray := ⟨(List.replicate 220 0).toArray⟩
theorem noughtsP_size : noughtsP.size = 220 := by
  show (List.replicate 220 (0 : UInt8)).toArray.size = 220
  rw [List.size_toArray, List.length_replicate]
def zeroP : Pge := (0, noughtsP)
theorem zeroP_right : RightP zeroP := ⟨⟨Int.le_refl _, by show (0 : Int) ≤ 2147483647; omega⟩, noughtsP_size⟩
theorem fold_right {p : Pge} (hp : RightP p) : ∀ l : List En, RightP (apA.fold p l) := fun l => by
  induction l generalizing p with
  | nil => exact hp
  | cons x l ih => exact ih (apP_right hp)
end Hs
end Go.Proofs.Ytkodnjefdophmaa
