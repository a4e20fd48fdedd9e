/- A transaction's chain as plain data: what is come to from a place on; the changes that stand; what undoes them. -/
import Derived.Test.YtkodnjefdophmaaRec
namespace Go.Proofs.Ytkodnjefdophmaa
/-- An entry: a record with its place. -/
abbrev En := Int × Rc
namespace Ch

/-- The places rise. -/
def Rises (l : List En) : Prop := l.Pairwise fun x y => x.1 < y.1
instance (l : List En) : Decidable (Rises l) := inferInstanceAs (Decidable (List.Pairwise _ _))
/-- May it be come to? -/
def Bad (t p : Int) (r : Rc) : Prop := (r.kind ≠ 1 ∧ r.kind ≠ 2) ∨ r.txn ≠ t ∨ p ≤ r.prev ∨ (r.kind = 2 ∧ p ≤ r.next)
instance (t p : Int) (r : Rc) : Decidable (Bad t p r) := inferInstanceAs (Decidable (_ ∨ _))
/-- The record at a place; an error. -/
def at_ (l : List En) (t p : Int) : Rc × Nat := match l.find? fun x => x.1 == p with
  | none => (Rc.nil, 7)
  | some x => if Bad t p x.2 then (x.2, 1) else (x.2, 0)
/-- Where it goes on. -/
def nxt (m : Bool) (r : Rc) : Int := if m = true ∧ r.kind = 2 then r.next else r.prev
/-- How many places are not above one. -/
def rank (l : List En) (p : Int) : Nat := l.countP fun x => decide (x.1 ≤ p)
theorem rank_le (l : List En) (p : Int) : rank l p ≤ l.length := List.countP_le_length
theorem at_zero {l : List En} {t p : Int} {r : Rc} (h : at_ l t p = (r, 0)) : (p, r) ∈ l ∧ l.find? (fun x => x.1 == p) = some (p, r) ∧ ¬ Bad t p r := by
  unfold at_ at h
  cases hf : l.find? fun x => x.1 == p with
  | none => rw [hf] at h; simp at h
  | some x =>
    rw [hf] at h
    simp only at h
    have h1 := List.mem_of_find?_eq_some hf
    have h2 : x.1 = p := by simpa using List.find?_some hf
    by_cases hb : Bad t p x.2
    · rw [if_pos hb] at h; simp at h
    · rw [if_neg hb] at h
      simp only [Prod.mk.injEq, and_true] at h
      obtain ⟨a, b⟩ := x
      simp only at h h2 hb
      subst h h2
      exact ⟨h1, rfl, hb⟩
theorem nxt_lt {t p : Int} {r : Rc} (h : ¬ Bad t p r) (m : Bool) : nxt m r < p := by
  unfold Bad at h
  unfold nxt
  by_cases hc : m = true ∧ r.kind = 2
  · rw [if_pos hc]
    have := hc.2
    omega
  · rw [if_neg hc]; omega
theorem rank_lt {l : List En} {x : En} {q : Int} (hx : x ∈ l) (hq : q < x.1) : rank l q < rank l x.1 := by
  unfold rank
  induction l with
  | nil => simp at hx
  | cons y l ih =>
    have hmono : l.countP (fun z => decide (z.1 ≤ q)) ≤ l.countP (fun z => decide (z.1 ≤ x.1)) := List.countP_mono_left fun z _ hz => by
      simp only [decide_eq_true_eq] at hz ⊢
      omega
    rw [List.countP_cons, List.countP_cons]
    rcases List.mem_cons.1 hx with rfl | hx
    · have h1 : ¬ x.1 ≤ q := by omega
      simp [h1]
      omega
    · have := ih hx
      by_cases h1 : y.1 ≤ q
      · have h2 : y.1 ≤ x.1 := by omega
        simp [h1, h2]; omega
      · simp [h1]; split <;> omega
/-- What is come to from a place on, until it stops; an error. -/
def follow (l : List En) (t : Int) (m : Bool) (stop : Int → Bool) (p : Int) : List En × Nat :=
  if stop p = true then ([], 0) else
  if _h : (at_ l t p).2 = 0 then
    ((p, (at_ l t p).1) :: (follow l t m stop (nxt m (at_ l t p).1)).1, (follow l t m stop (nxt m (at_ l t p).1)).2)
  else ([], (at_ l t p).2)
termination_by rank l p
decreasing_by
  all_goals
    have h0 := at_zero (l := l) (t := t) (p := p) (r := (at_ l t p).1) (by rw [← _h])
    exact rank_lt (x := (p, (at_ l t p).1)) h0.1 (nxt_lt h0.2.2 m)
section
variable {l l' : List En} {t p : Int} {m : Bool} {stop stop' : Int → Bool} {r : Rc} {e : Nat}
theorem follow_stop (h : stop p = true) : follow l t m stop p = ([], 0) := by rw [follow, if_pos h]
theorem follow_step (h : stop p = false) (hr : at_ l t p = (r, 0)) : follow l t m stop p = ((p, r) :: (follow l t m stop (nxt m r)).1, (follow l t m stop (nxt m r)).2) := by
  rw [follow, if_neg (by rw [h]; decide), dif_pos (by rw [hr]), hr]
theorem follow_err (h : stop p = false) (hr : at_ l t p = (r, e)) (he : e ≠ 0) : follow l t m stop p = ([], e) := by
  rw [follow, if_neg (by rw [h]; decide), dif_neg (by rw [hr]; exact he), hr]
/-- An induction along what is come to. -/
theorem follow_ind (l : List En) (t : Int) (m : Bool) (stop : Int → Bool) (P : Int → Prop) (h0 : ∀ p, stop p = true → P p) (h1 : ∀ p r e, stop p = false → at_ l t p = (r, e) → e ≠ 0 → P p)
    (h2 : ∀ p r, stop p = false → at_ l t p = (r, 0) → P (nxt m r) → P p) (p : Int) : P p := by
  generalize hk : rank l p = k
  induction k using Nat.strongRecOn generalizing p with
  | _ k ih =>
    cases hs : stop p with
    | true => exact h0 p hs
    | false =>
      rcases hx : at_ l t p with ⟨r, e⟩
      by_cases he : e = 0
      · subst he
        have hz := at_zero hx
        exact h2 p r hs hx (ih _ (by rw [← hk]; exact rank_lt (x := (p, r)) hz.1 (nxt_lt hz.2.2 m)) _ rfl)
      · exact h1 p r e hs hx he
/-- What has been come to. -/
theorem follow_mem (l : List En) (t : Int) (m : Bool) (stop : Int → Bool) (p : Int) : ∀ x ∈ (follow l t m stop p).1, x ∈ l ∧ x.1 ≤ p ∧ ¬ Bad t x.1 x.2 := by
  refine follow_ind l t m stop (fun p => ∀ x ∈ (follow l t m stop p).1, x ∈ l ∧ x.1 ≤ p ∧ ¬ Bad t x.1 x.2) ?_ ?_ ?_ p
  · intro p hs x hx; rw [follow_stop hs] at hx; simp at hx
  · intro p r e hs hr he x hx; rw [follow_err hs hr he] at hx; simp at hx
  · intro p r hs hr ih x hx
    rw [follow_step hs hr] at hx
    have hz := at_zero hr
    rcases List.mem_cons.1 hx with rfl | hx
    · exact ⟨hz.1, Int.le_refl _, hz.2.2⟩
    · have := ih x hx
      have h2 := nxt_lt hz.2.2 m
      exact ⟨this.1, by omega, this.2.2⟩
theorem follow_falls (l : List En) (t : Int) (m : Bool) (stop : Int → Bool) (p : Int) : (follow l t m stop p).1.Pairwise fun x y => y.1 < x.1 := by
  refine follow_ind l t m stop (fun p => (follow l t m stop p).1.Pairwise fun x y => y.1 < x.1) ?_ ?_ ?_ p
  · intro p hs; rw [follow_stop hs]; exact .nil
  · intro p r e hs hr he; rw [follow_err hs hr he]; exact .nil
  · intro p r hs hr ih
    rw [follow_step hs hr]
    refine .cons (fun x hx => ?_) ih
    have := follow_mem l t m stop _ x hx
    have h2 := nxt_lt (at_zero hr).2.2 m
    show x.1 < p
    omega
theorem follow_len (l : List En) (t : Int) (m : Bool) (stop : Int → Bool) (p : Int) : (follow l t m stop p).1.length ≤ rank l p := by
  refine follow_ind l t m stop (fun p => (follow l t m stop p).1.length ≤ rank l p) ?_ ?_ ?_ p
  · intro p hs; rw [follow_stop hs]; exact Nat.zero_le _
  · intro p r e hs hr he; rw [follow_err hs hr he]; exact Nat.zero_le _
  · intro p r hs hr ih
    rw [follow_step hs hr]
    have hz := at_zero hr
    have := rank_lt (x := (p, r)) hz.1 (nxt_lt hz.2.2 m)
    rw [List.length_cons]
    simp only at this
    omega
/-- Behind one that was come to. -/
theorem follow_behind (l : List En) (t : Int) (m : Bool) (stop : Int → Bool) (p : Int) : ∀ (A B : List En) (x : En), (follow l t m stop p).1 = A ++ x :: B → follow l t m stop (nxt m x.2) = (B, (follow l t m stop p).2) := by
  refine follow_ind l t m stop (fun p => ∀ (A B : List En) (x : En), (follow l t m stop p).1 = A ++ x :: B → follow l t m stop (nxt m x.2) = (B, (follow l t m stop p).2)) ?_ ?_ ?_ p
  · intro p hs A B x h; rw [follow_stop hs] at h; simp at h
  · intro p r e hs hr he A B x h; rw [follow_err hs hr he] at h; simp at h
  · intro p r hs hr ih A B x h
    rw [follow_step hs hr] at h ⊢
    cases A with
    | nil =>
      simp only [List.nil_append, List.cons.injEq] at h
      obtain ⟨rfl, rfl⟩ := h
      rfl
    | cons y A =>
      simp only [List.cons_append, List.cons.injEq] at h
      exact ih A B x h.2
/-- One that stops earlier. -/
theorem follow_earlier (l : List En) (t : Int) (m : Bool) (hs : ∀ p, stop p = true → stop' p = true) (p : Int) : (follow l t m stop p).2 = 0 → (follow l t m stop' p).2 = 0 ∧ ∃ q, (follow l t m stop p).1 = (follow l t m stop' p).1 ++ (follow l t m stop q).1 ∧ (follow l t m stop q).2 = 0 := by
  refine follow_ind l t m stop (fun p => (follow l t m stop p).2 = 0 → (follow l t m stop' p).2 = 0 ∧ ∃ q, (follow l t m stop p).1 = (follow l t m stop' p).1 ++ (follow l t m stop q).1 ∧ (follow l t m stop q).2 = 0) ?_ ?_ ?_ p
  · intro p h _
    rw [follow_stop (hs p h)]
    exact ⟨rfl, p, by rw [follow_stop h]; rfl, by rw [follow_stop h]⟩
  · intro p r e h hr he h0
    rw [follow_err h hr he] at h0
    exact absurd h0 he
  · intro p r h hr ih h0
    cases h' : stop' p with
    | true =>
      rw [follow_stop h']
      exact ⟨rfl, p, rfl, h0⟩
    | false =>
      rw [follow_step h hr] at h0 ⊢
      rw [follow_step h' hr]
      obtain ⟨h1, q, h2, h3⟩ := ih h0
      exact ⟨h1, q, by simp only; rw [h2, List.cons_append], h3⟩
/-- Two lists that agree on what is come to without an error. -/
theorem follow_over (hl : ∀ p r, stop p = false → at_ l t p = (r, 0) → at_ l' t p = (r, 0)) (p : Int) : (follow l t m stop p).2 = 0 → follow l' t m stop p = follow l t m stop p := by
  refine follow_ind l t m stop (fun p => (follow l t m stop p).2 = 0 → follow l' t m stop p = follow l t m stop p) ?_ ?_ ?_ p
  · intro p h _; rw [follow_stop h, follow_stop h]
  · intro p r e h hr he h0
    rw [follow_err h hr he] at h0
    exact absurd h0 he
  · intro p r h hr ih h0
    rw [follow_step h hr] at h0
    rw [follow_step h hr, follow_step h (hl p r h hr), ih h0]
/-- Two stops that agree on the places from Z on, where all that goes on stays there. -/
theorem follow_stops (Z : Int) (hs : ∀ p, Z ≤ p → stop p = stop' p) (hz : ∀ x ∈ l, Z ≤ nxt m x.2) (p : Int) (hp : Z ≤ p) : follow l t m stop' p = follow l t m stop p := by
  revert hp
  refine follow_ind l t m stop (fun p => Z ≤ p → follow l t m stop' p = follow l t m stop p) ?_ ?_ ?_ p
  · intro p h hp; rw [follow_stop h, follow_stop ((hs p hp).symm.trans h)]
  · intro p r e h hr he hp; rw [follow_err h hr he, follow_err ((hs p hp).symm.trans h) hr he]
  · intro p r h hr ih hp
    rw [follow_step h hr, follow_step ((hs p hp).symm.trans h) hr, ih (hz _ (at_zero hr).1)]
theorem find_own {l : List En} (hr : Rises l) (f : En → Bool) {x : En} (hx : l.find? (fun y => y.1 == x.1) = some x) (hf : f x = true) : (l.filter f).find? (fun y => y.1 == x.1) = some x := by
  induction l with
  | nil => simp at hx
  | cons y l ih =>
    have hr' := List.pairwise_cons.1 hr
    by_cases hy : y.1 = x.1
    · have e : y = x := by
        rw [List.find?_cons_of_pos (by simpa using hy)] at hx
        exact Option.some.inj hx
      subst e
      rw [List.filter_cons_of_pos hf, List.find?_cons_of_pos (by simp)]
    · rw [List.find?_cons_of_neg (by simpa using hy)] at hx
      cases hfy : f y with
      | true => rw [List.filter_cons_of_pos hfy, List.find?_cons_of_neg (by simpa using hy)]; exact ih hr'.2 hx
      | false => rw [List.filter_cons_of_neg (by rw [hfy]; decide)]; exact ih hr'.2 hx
theorem at_own (hr : Rises l) (h : at_ l t p = (r, 0)) : at_ (l.filter fun x => x.2.txn == t) t p = (r, 0) := by
  obtain ⟨h1, h2, h3⟩ := at_zero h
  have hf : (fun x : En => x.2.txn == t) (p, r) = true := by
    unfold Bad at h3
    simp only [beq_iff_eq]
    omega
  unfold at_
  rw [show (l.filter fun x => x.2.txn == t).find? (fun x => x.1 == p) = some (p, r) from find_own (x := (p, r)) hr _ h2 hf]
  simp only
  rw [if_neg h3]
theorem at_snoc {x : En} (hx : p < x.1) : at_ (l ++ [x]) t p = at_ l t p := by
  unfold at_
  rw [List.find?_append]
  have h0 : (x.1 == p) = false := by simp; omega
  simp only [List.find?, h0, Option.or_none]
theorem at_new {x : En} (h : ∀ y ∈ l, y.1 < x.1) (hb : ¬ Bad t x.1 x.2) : at_ (l ++ [x]) t x.1 = (x.2, 0) := by
  unfold at_
  have h0 : l.find? (fun y => y.1 == x.1) = none := by
    rw [List.find?_eq_none]
    intro y hy
    have := h y hy
    simp; omega
  rw [List.find?_append, h0]
  simp [List.find?, hb]
/-- One more behind all changes nothing of what is come to below it. -/
theorem follow_snoc {x : En} (hx : p < x.1) : follow (l ++ [x]) t m stop p = follow l t m stop p := by
  revert hx
  refine follow_ind l t m stop (fun p => p < x.1 → follow (l ++ [x]) t m stop p = follow l t m stop p) ?_ ?_ ?_ p
  · intro p h _; rw [follow_stop h, follow_stop h]
  · intro p r e h hr he hx; rw [follow_err h hr he, follow_err h (by rw [at_snoc hx]; exact hr) he]
  · intro p r h hr ih hx
    have := nxt_lt (at_zero hr).2.2 m
    rw [follow_step h hr, follow_step h (by rw [at_snoc hx]; exact hr), ih (by omega)]
end
end Ch
end Go.Proofs.Ytkodnjefdophmaa
