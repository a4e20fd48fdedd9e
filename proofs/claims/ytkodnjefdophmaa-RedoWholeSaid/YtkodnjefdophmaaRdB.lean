/- Redo of pages with their places (stage 14; written ahead; plain mathematics): One, and what RedoWhole says. Nothing of the program is imported. -/
import Derived.Test.YtkodnjefdophmaaRdP
namespace Go.Proofs.Ytkodnjefdophmaa
namespace Hs

/-- A change that lies in a page. -/
def Goes (r : Rc) : Prop := Chg16 r ∧ SpotP r
instance (r : Rc) : Decidable (Goes r) := inferInstanceAs (Decidable (_ ∧ _))
theorem apP_no {p : Pge} {x : Int} {r : Rc} (h : ¬ (Goes r ∧ Num x)) : apP p x r = p := if_neg fun k => h ⟨⟨k.1, k.2.2.2.2⟩, k.2.2.2.1⟩
/-- Whether a record changes the empty page at 1. -/
theorem apP_one (r : Rc) : (apP zeroP 1 r).1 = 1 ↔ Goes r := by
  by_cases h : Goes r
  · rw [apP_yes h.1 (show (0 : Int) < 1 by omega) zeroP_right (show Num 1 from ⟨by omega, by omega⟩) h.2]
    exact iff_of_true rfl h
  · rw [apP_no fun k => h k.1]
    exact iff_of_false (show ¬ (0 : Int) = 1 by omega) h
/-- One. -/
def oneL (L : List En) (n : Int) : Pge := apA.fold zeroP (L.filter fun x => decide (x.2.page = n))
theorem one_nil (n : Int) : oneL [] n = zeroP := rfl
theorem one_snoc (L : List En) (x : En) (n : Int) : oneL (L ++ [x]) n = if x.2.page = n then apP (oneL L n) x.1 x.2 else oneL L n := by
  refine (congrArg (apA.fold zeroP) (List.filter_append ..)).trans ((apA.fold_app zeroP _ _).trans ?_)
  by_cases h : x.2.page = n
  · rw [if_pos h, List.filter_cons_of_pos (by simpa using h)]; rfl
  · rw [if_neg h, List.filter_cons_of_neg (by simpa using h)]; rfl
theorem one_take {L : List En} {k : Nat} (h : k < L.length) (n : Int) : oneL (L.take (k + 1)) n = if L[k].2.page = n then apP (oneL (L.take k) n) L[k].1 L[k].2 else oneL (L.take k) n := by
  rw [← one_snoc, List.take_append_getElem h]
theorem one_right (L : List En) (n : Int) : RightP (oneL L n) := fold_right zeroP_right _
theorem pages_snoc (L : List En) (x : En) (from_ : Int) (ps : List Pge) : apA.pages (L ++ [x]) from_ ps = apA.step from_ (apA.pages L from_ ps) x := apA.pages_app from_ L [x] ps
theorem pages_take {L : List En} {k : Nat} (h : k < L.length) (from_ : Int) (ps : List Pge) : apA.pages (L.take (k + 1)) from_ ps = apA.step from_ (apA.pages (L.take k) from_ ps) L[k] := by
  rw [← pages_snoc, List.take_append_getElem h]
/-- A page's own changes: those that do what they say. -/
def goes (n : Nat) (L : List En) : List En := L.filter fun x => decide (x.2.page = (n : Int) ∧ Goes x.2 ∧ x.1 ≤ 2147483647)
theorem goes_mem {n : Nat} {L : List En} {x : En} (h : x ∈ goes n L) : x ∈ L ∧ x.2.page = (n : Int) ∧ Goes x.2 ∧ x.1 ≤ 2147483647 := by
  obtain ⟨h1, h2⟩ := List.mem_filter.1 h
  exact ⟨h1, by simpa using h2⟩
theorem goes_snoc (n : Nat) (L : List En) (x : En) : goes n (L ++ [x]) = if x.2.page = (n : Int) ∧ Goes x.2 ∧ x.1 ≤ 2147483647 then goes n L ++ [x] else goes n L := by
  unfold goes
  rw [List.filter_append]
  by_cases h : x.2.page = (n : Int) ∧ Goes x.2 ∧ x.1 ≤ 2147483647
  · rw [if_pos h, List.filter_cons_of_pos (by simpa using h)]; rfl
  · rw [if_neg h, List.filter_cons_of_neg (by simpa using h), List.filter_nil, List.append_nil]
theorem goes_take {L : List En} {k : Nat} (h : k < L.length) (n : Nat) : goes n (L.take (k + 1)) = if L[k].2.page = (n : Int) ∧ Goes L[k].2 ∧ L[k].1 ≤ 2147483647 then goes n (L.take k) ++ [L[k]] else goes n (L.take k) := by
  rw [← goes_snoc, List.take_append_getElem h]
theorem goes_len (n : Nat) (L : List En) : (goes n L).length ≤ L.length := List.length_filter_le ..
theorem goes_rise {L : List En} (h : Ch.Rises L) (n : Nat) : Ch.Rises (goes n L) := List.Pairwise.sublist List.filter_sublist h
theorem goes_does {L : List En} (h1 : ∀ x ∈ L, 1 ≤ x.1) (n : Nat) : apA.Does RightP (goes n L) where
  keep := fun _ hp _ _ => apP_right hp
  go := fun p hp x hx hlt => by
    obtain ⟨k1, _, k2, k3⟩ := goes_mem hx
    have := h1 x k1
    show (apP p x.1 x.2).1 = x.1
    rw [apP_yes k2.1 hlt hp ⟨by omega, k3⟩ k2.2]
theorem one_goes (n k : Nat) (L : List En) : oneL ((goes n L).take k) n = apA.fold zeroP ((goes n L).take k) := by
  unfold oneL
  rw [List.filter_eq_self.2 fun x hx => by simpa using (goes_mem (List.mem_of_mem_take hx)).2.1]
theorem one_goes_all (n : Nat) (L : List En) : oneL (goes n L) n = apA.fold zeroP (goes n L) := by
  have := one_goes n (goes n L).length L
  rwa [List.take_length] at this
theorem of_goes (from_ : Int) (n : Nat) (L : List En) : (Ap.of from_ n L).filter (fun x => decide (Goes x.2 ∧ x.1 ≤ 2147483647)) = (goes n L).filter fun x => decide (from_ ≤ x.1) := by
  unfold Ap.of goes
  rw [List.filter_filter, List.filter_filter]
  refine List.filter_congr fun x _ => ?_
  unfold Ap.Of
  by_cases h1 : Goes x.2 <;> by_cases h2 : x.2.page = (n : Int) <;> by_cases h3 : from_ ≤ x.1 <;> by_cases h4 : x.1 ≤ 2147483647 <;> simp [h1, h2, h3, h4]
/-- P14.2, for one page. -/
theorem redo_one {L : List En} (hr : Ch.Rises L) (h1 : ∀ x ∈ L, 1 ≤ x.1) (n k : Nat) {from_ : Int} (hf : ∀ x ∈ (goes n L).drop k, from_ ≤ x.1) :
    apA.fold (oneL ((goes n L).take k) n) (Ap.of from_ n L) = oneL (goes n L) n := by
  have e := (apA.fold_filter (ok := RightP) (l := Ap.of from_ n L) (fun x => decide (Goes x.2 ∧ x.1 ≤ 2147483647)) (fun p hp x _ => apP_right hp) (fun p _ x _ hx => apP_no fun k => by
    have : Goes x.2 ∧ x.1 ≤ 2147483647 := ⟨k.1, k.2.2⟩
    simp [this] at hx) (one_right ((goes n L).take k) n)).symm
  rw [e, of_goes, one_goes, one_goes_all]
  exact Ap.whole apA (goes_does h1 n) (goes_rise hr n) zeroP_right k hf
/-- P14.2: pages that have beginnings of their own changes. -/
theorem redo_all {L : List En} (hr : Ch.Rises L) (h1 : ∀ x ∈ L, 1 ≤ x.1) (m : Nat) (k : Nat → Nat) {from_ : Int} (hf : ∀ n, n < m → ∀ x ∈ (goes n L).drop (k n), from_ ≤ x.1) :
    apA.pages L from_ ((List.range m).map fun n => oneL ((goes n L).take (k n)) n) = (List.range m).map fun n => oneL (goes n L) n := by
  refine List.ext_getElem? fun n => (apA.pages_at from_ n L _).trans ?_
  have at_ : ∀ (f : Nat → Pge), ((List.range m).map f)[n]? = if n < m then some (f n) else none := fun f => by
    rw [List.getElem?_map]
    by_cases h : n < m
    · rw [if_pos h, List.getElem?_range h]; rfl
    · rw [if_neg h, List.getElem?_eq_none (by rw [List.length_range]; omega)]; rfl
  refine (congrArg (Option.map fun p => apA.fold p (Ap.of from_ n L)) (at_ fun n => oneL ((goes n L).take (k n)) n)).trans (Eq.trans ?_ (at_ fun n => oneL (goes n L) n).symm)
  by_cases h : n < m
  · rw [if_pos h, if_pos h]
    exact congrArg some (redo_one hr h1 n (k n) (hf n h))
  · rw [if_neg h, if_neg h]
    rfl
/-- The first place that any page lacks. -/
def fromL (L : List En) (k : Nat → Nat) : Nat → Int
  | 0 => 2147483647
  | n + 1 => if h : k n < (goes n L).length then min (fromL L k n) ((goes n L)[k n]).1 else fromL L k n
theorem fromL_ge {L : List En} (h1 : ∀ x ∈ L, 1 ≤ x.1) (k : Nat → Nat) : ∀ m, 1 ≤ fromL L k m ∧ fromL L k m ≤ 2147483647
  | 0 => ⟨by show (1 : Int) ≤ 2147483647; omega, Int.le_refl _⟩
  | n + 1 => by
    have := fromL_ge h1 k n
    unfold fromL
    split
    · rename_i h
      have := h1 _ (goes_mem (List.getElem_mem h)).1
      omega
    · exact this
theorem rises_drop {l : List En} (hr : Ch.Rises l) {k : Nat} (hk : k < l.length) : ∀ x ∈ l.drop k, l[k].1 ≤ x.1 := fun x hx => by
  have h2 : Ch.Rises (l.drop k) := List.Pairwise.sublist (List.drop_sublist k l) hr
  rw [List.drop_eq_getElem_cons hk] at hx h2
  rcases List.mem_cons.1 hx with rfl | hx
  · exact Int.le_refl _
  · exact Int.le_of_lt ((List.pairwise_cons.1 h2).1 x hx)
theorem fromL_le {L : List En} (hr : Ch.Rises L) (k : Nat → Nat) : ∀ m, ∀ n, n < m → ∀ x ∈ (goes n L).drop (k n), fromL L k m ≤ x.1
  | 0, n, h, _, _ => absurd h (by omega)
  | m + 1, n, h, x, hx => by
    unfold fromL
    by_cases e : n = m
    · subst e
      split
      · rename_i hl
        have := rises_drop (goes_rise hr n) hl x hx
        omega
      · rename_i hl
        rw [List.drop_eq_nil_of_le (by omega)] at hx
        cases hx
    · have := fromL_le hr k m n (by omega) x hx
      split
      · omega
      · exact this
end Hs
end Go.Proofs.Ytkodnjefdophmaa
