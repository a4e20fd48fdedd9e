/- Redo as plain data: records are done again on pages, whatever it is that one record does to one page (Ap: it leaves a page as it is, or gives it its own place, which is above the page's). Nothing of the program is imported. -/
import Derived.Test.YtkodnjefdophmaaChA
namespace Go.Proofs.Ytkodnjefdophmaa

/-- What a record at a place does to a page. -/
structure Ap where
  P : Type
  ap : P → Int → Rc → P
  at_ : P → Int
  cases : ∀ p x r, ap p x r = p ∨ (at_ p < x ∧ at_ (ap p x r) = x)
namespace Ap
variable (c : Ap)
/-- Records one behind the other. -/
def fold (p : c.P) (l : List En) : c.P := l.foldl (fun p x => c.ap p x.1 x.2) p
theorem fold_nil (p : c.P) : c.fold p [] = p := rfl
theorem fold_cons (p : c.P) (x : En) (l : List En) : c.fold p (x :: l) = c.fold (c.ap p x.1 x.2) l := rfl
theorem fold_app (p : c.P) (l m : List En) : c.fold p (l ++ m) = c.fold (c.fold p l) m := List.foldl_append
theorem old {p : c.P} {x : Int} {r : Rc} (h : x ≤ c.at_ p) : c.ap p x r = p := by
  rcases c.cases p x r with e | ⟨e, _⟩
  · exact e
  · omega
/-- Behind records that rise from b on a page is as it was, or has a place of b or more. -/
theorem fold_at : ∀ {l : List En} {p : c.P} {b : Int}, Ch.Rises l → (∀ x ∈ l, b ≤ x.1) → c.fold p l = p ∨ b ≤ c.at_ (c.fold p l)
  | [], _, _, _, _ => .inl rfl
  | x :: l, p, b, hr, hb => by
    obtain ⟨h1, h2⟩ := List.pairwise_cons.1 hr
    rw [fold_cons]
    have hx := hb x List.mem_cons_self
    rcases fold_at (l := l) (p := c.ap p x.1 x.2) (b := b) h2 (fun y hy => hb y (List.mem_cons_of_mem _ hy)) with e | e
    · rw [e]
      rcases c.cases p x.1 x.2 with k | ⟨_, k⟩
      · exact .inl k
      · exact .inr (by rw [k]; exact hx)
    · exact .inr e
/-- A record that was done, done again, does nothing. -/
theorem again {l : List En} {p : c.P} (hr : Ch.Rises l) {x : En} (hx : x ∈ l) : c.ap (c.fold p l) x.1 x.2 = c.fold p l := by
  obtain ⟨l1, l2, rfl⟩ := List.append_of_mem hx
  obtain ⟨_, hr2, _⟩ := List.pairwise_append.1 hr
  obtain ⟨h1, h2⟩ := List.pairwise_cons.1 hr2
  rw [fold_app, fold_cons]
  generalize c.fold p l1 = q
  rcases c.fold_at (l := l2) (p := c.ap q x.1 x.2) (b := x.1) h2 (fun y hy => by have := h1 y hy; omega) with e | e
  · rw [e]
    rcases c.cases q x.1 x.2 with k | ⟨_, k⟩
    · rw [k, k]
    · exact c.old (by omega)
  · exact c.old e
theorem again_all : ∀ {m l : List En} {p : c.P}, Ch.Rises l → (∀ x ∈ m, x ∈ l) → c.fold (c.fold p l) m = c.fold p l
  | [], _, _, _, _ => rfl
  | x :: m, l, p, hr, h => by
    rw [fold_cons, c.again hr (h x List.mem_cons_self)]
    exact again_all hr fun y hy => h y (List.mem_cons_of_mem _ hy)

/-- The records that name a page, from a place on. -/
def Of (from_ : Int) (n : Nat) (x : En) : Prop := from_ ≤ x.1 ∧ x.2.page = n
instance (from_ : Int) (n : Nat) (x : En) : Decidable (Of from_ n x) := inferInstanceAs (Decidable (_ ∧ _))
def of (from_ : Int) (n : Nat) (l : List En) : List En := l.filter fun x => decide (Of from_ n x)
/-- One record on all pages. -/
def step (from_ : Int) (ps : List c.P) (x : En) : List c.P := match (if from_ ≤ x.1 ∧ 0 ≤ x.2.page then ps[x.2.page.toNat]? else none) with
  | none => ps
  | some p => ps.set x.2.page.toNat (c.ap p x.1 x.2)
/-- Pages. -/
def pages (l : List En) (from_ : Int) (ps : List c.P) : List c.P := l.foldl (c.step from_) ps
theorem step_len (from_ : Int) (ps : List c.P) (x : En) : (c.step from_ ps x).length = ps.length := by
  unfold step
  split
  · rfl
  · rw [List.length_set]
theorem pages_len (from_ : Int) : ∀ (l : List En) (ps : List c.P), (c.pages l from_ ps).length = ps.length
  | [], _ => rfl
  | x :: l, ps => by
    show (c.pages l from_ (c.step from_ ps x)).length = _
    rw [pages_len from_ l, step_len]
theorem step_at (from_ : Int) (ps : List c.P) (x : En) (n : Nat) : (c.step from_ ps x)[n]? = ps[n]?.map fun p => if Of from_ n x then c.ap p x.1 x.2 else p := by
  unfold step
  by_cases h : from_ ≤ x.1 ∧ 0 ≤ x.2.page
  · rw [if_pos h]
    by_cases hn : x.2.page.toNat = n
    · subst hn
      have e : x.2.page = (x.2.page.toNat : Int) := by omega
      cases hp : ps[x.2.page.toNat]? with
      | none => simp only [hp, Option.map_none]
      | some p =>
        have hl := (List.getElem?_eq_some_iff.1 hp).1
        simp only [Option.map_some]
        rw [List.getElem?_set_self hl, if_pos ⟨h.1, e⟩]
    · have hne : ¬ Of from_ n x := fun k => hn (by rw [k.2]; rfl)
      have hid : (ps[n]?.map fun p => if Of from_ n x then c.ap p x.1 x.2 else p) = ps[n]? := by
        cases ps[n]? with
        | none => rfl
        | some p => simp only [Option.map_some, if_neg hne]
      rw [hid]
      split
      · rfl
      · rw [List.getElem?_set_ne hn]
  · rw [if_neg h]
    have hne : ¬ Of from_ n x := fun k => h ⟨k.1, by have k2 : x.2.page = (n : Int) := k.2; omega⟩
    simp only
    cases ps[n]? with
    | none => rfl
    | some p => simp only [Option.map_some, if_neg hne]
/-- Each page hangs on the records that name it alone. -/
theorem pages_at (from_ : Int) (n : Nat) : ∀ (l : List En) (ps : List c.P), (c.pages l from_ ps)[n]? = ps[n]?.map fun p => c.fold p (of from_ n l)
  | [], ps => by
    show ps[n]? = _
    cases ps[n]? <;> rfl
  | x :: l, ps => by
    show (c.pages l from_ (c.step from_ ps x))[n]? = _
    rw [pages_at from_ n l, step_at]
    cases ps[n]? with
    | none => rfl
    | some p =>
      simp only [Option.map_some]
      unfold of
      by_cases h : Of from_ n x
      · rw [if_pos h, List.filter_cons_of_pos (by simpa using h)]
        rfl
      · rw [if_neg h, List.filter_cons_of_neg (by simpa using h)]
theorem pages_app (from_ : Int) (l m : List En) (ps : List c.P) : c.pages (l ++ m) from_ ps = c.pages m from_ (c.pages l from_ ps) := List.foldl_append
theorem of_of (from_ : Int) (n : Nat) (l : List En) : of from_ n (l.filter fun x => decide (x.2.page = (n : Int))) = of from_ n l := by
  unfold of
  rw [List.filter_filter]
  refine List.filter_congr fun x _ => ?_
  unfold Of
  by_cases h : x.2.page = (n : Int) <;> simp [h]
/-- RedoApart. -/
theorem apart (from_ : Int) (n : Nat) (l : List En) (ps : List c.P) : (c.pages l from_ ps)[n]? = (c.pages (l.filter fun x => decide (x.2.page = (n : Int))) from_ ps)[n]? := by
  rw [pages_at, pages_at, of_of]
theorem rises_of {l : List En} (h : Ch.Rises l) (from_ : Int) (n : Nat) : Ch.Rises (of from_ n l) := List.Pairwise.sublist List.filter_sublist h
/-- RedoAgain. -/
theorem twice {l : List En} (hr : Ch.Rises l) {from_ again_ : Int} (h : from_ ≤ again_) (ps : List c.P) : c.pages l again_ (c.pages l from_ ps) = c.pages l from_ ps := by
  refine List.ext_getElem? fun n => ?_
  rw [pages_at, pages_at]
  cases ps[n]? with
  | none => rfl
  | some p =>
    simp only [Option.map_some]
    congr 1
    refine c.again_all (rises_of hr from_ n) fun x hx => ?_
    unfold of at hx ⊢
    obtain ⟨h1, h2⟩ := List.mem_filter.1 hx
    have h3 : Of again_ n x := by simpa using h2
    exact List.mem_filter.2 ⟨h1, by simpa using (show Of from_ n x from ⟨by have := h3.1; omega, h3.2⟩)⟩

/-- Records that do what they say, on pages that are right: each gives a page its own place. -/
structure Does (ok : c.P → Prop) (l : List En) : Prop where
  keep : ∀ p, ok p → ∀ x ∈ l, ok (c.ap p x.1 x.2)
  go : ∀ p, ok p → ∀ x ∈ l, c.at_ p < x.1 → c.at_ (c.ap p x.1 x.2) = x.1
theorem Does.tail {c : Ap} {ok : c.P → Prop} {x : En} {l : List En} (h : c.Does ok (x :: l)) : c.Does ok l := ⟨fun p hp y hy => h.keep p hp y (List.mem_cons_of_mem _ hy), fun p hp y hy => h.go p hp y (List.mem_cons_of_mem _ hy)⟩
/-- Behind records that rise, and do what they say, a page has the last one's place, or a greater one. -/
theorem Does.last {c : Ap} {ok : c.P → Prop} : ∀ {l : List En} {p : c.P}, c.Does ok l → ok p → Ch.Rises l → ok (c.fold p l) ∧ ∀ x ∈ l, x.1 ≤ c.at_ (c.fold p l)
  | [], _, _, hp, _ => ⟨hp, fun _ h => nomatch h⟩
  | x :: l, p, h, hp, hr => by
    obtain ⟨h1, h2⟩ := List.pairwise_cons.1 hr
    have hk := h.keep p hp x List.mem_cons_self
    obtain ⟨i1, i2⟩ := Does.last h.tail hk h2
    rw [fold_cons]
    refine ⟨i1, fun y hy => ?_⟩
    rcases List.mem_cons.1 hy with rfl | hy
    · have hx : y.1 ≤ c.at_ (c.ap p y.1 y.2) := by
        by_cases g : c.at_ p < y.1
        · rw [h.go p hp y List.mem_cons_self g]; exact Int.le_refl _
        · rw [c.old (by omega)]; omega
      rcases c.fold_at (l := l) (p := c.ap p y.1 y.2) (b := y.1) h2 (fun z hz => by have := h1 z hz; omega) with e | e
      · rw [e]; exact hx
      · exact e
    · exact i2 y hy
theorem fold_old : ∀ {l : List En} {p : c.P}, (∀ x ∈ l, x.1 ≤ c.at_ p) → c.fold p l = p
  | [], _, _ => rfl
  | x :: l, p, h => by
    rw [fold_cons, c.old (h x List.mem_cons_self)]
    exact fold_old fun y hy => h y (List.mem_cons_of_mem _ hy)
/-- RedoWhole, for one page: it has the first k of its own records; from a place on that isn't above the next one, all. -/
theorem whole {ok : c.P → Prop} {own : List En} (hd : c.Does ok own) (hr : Ch.Rises own) {p : c.P} (hp : ok p) (k : Nat) {from_ : Int} (hf : ∀ x ∈ own.drop k, from_ ≤ x.1) :
    c.fold (c.fold p (own.take k)) (own.filter fun x => decide (from_ ≤ x.1)) = c.fold p own := by
  have hsplit : own.take k ++ own.drop k = own := List.take_append_drop k own
  have hdt : c.Does ok (own.take k) := ⟨fun p hp x hx => hd.keep p hp x (List.mem_of_mem_take hx), fun p hp x hx => hd.go p hp x (List.mem_of_mem_take hx)⟩
  have hrt : Ch.Rises (own.take k) := List.Pairwise.sublist (List.take_sublist k own) hr
  have hl := (hdt.last hp hrt).2
  have e : own.filter (fun x => decide (from_ ≤ x.1)) = (own.take k).filter (fun x => decide (from_ ≤ x.1)) ++ own.drop k := by
    conv => lhs; rw [← hsplit]
    rw [List.filter_append]
    congr 1
    exact List.filter_eq_self.2 fun x hx => by simpa using hf x hx
  rw [e, fold_app, c.fold_old fun x hx => hl x (List.mem_filter.1 hx).1, ← fold_app, hsplit]
/-- Records that do nothing may be left out. -/
theorem fold_filter {ok : c.P → Prop} (q : En → Bool) : ∀ {l : List En} {p : c.P}, (∀ p, ok p → ∀ x ∈ l, ok (c.ap p x.1 x.2)) → (∀ p, ok p → ∀ x ∈ l, q x = false → c.ap p x.1 x.2 = p) → ok p → c.fold p (l.filter q) = c.fold p l
  | [], _, _, _, _ => rfl
  | x :: l, p, hk, hn, hp => by
    have ih := fun p' hp' => fold_filter q (l := l) (p := p') (fun p hp y hy => hk p hp y (List.mem_cons_of_mem _ hy)) (fun p hp y hy => hn p hp y (List.mem_cons_of_mem _ hy)) hp'
    cases hq : q x with
    | true =>
      rw [List.filter_cons_of_pos hq, fold_cons, fold_cons]
      exact ih _ (hk p hp x List.mem_cons_self)
    | false =>
      rw [List.filter_cons_of_neg (by simp [hq]), fold_cons, hn p hp x List.mem_cons_self hq]
      exact ih p hp
end Ap
end Go.Proofs.Ytkodnjefdophmaa
