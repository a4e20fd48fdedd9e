/- Analysis as plain data: what is left of rows behind a list of records; a checkpoint with the tables of its time tells what the whole log tells. Nothing of the program is imported. -/
import Derived.Test.YtgjkhjlobfblcaaChA
namespace Go.Proofs.Ytgjkhjlobfblcaa
namespace An

abbrev TF := Int → Option (Int × Int)
abbrev PF := Int → Option Int
structure Ta where
  t : TF
  p : PF
theorem Ta.ext' {a b : Ta} (h1 : ∀ n, a.t n = b.t n) (h2 : ∀ n, a.p n = b.p n) : a = b := by
  obtain ⟨t, p⟩ := a
  obtain ⟨u, q⟩ := b
  have e1 : t = u := funext h1
  have e2 : p = q := funext h2
  rw [e1, e2]
def none_ : Ta := ⟨fun _ => none, fun _ => none⟩
def put {α : Type} (f : Int → Option α) (k : Int) (v : Option α) : Int → Option α := fun i => if i = k then v else f i
theorem put_at {α : Type} (f : Int → Option α) (k : Int) (v : Option α) : put f k v k = v := if_pos rfl
theorem put_ne {α : Type} (f : Int → Option α) {k i : Int} (v : Option α) (h : i ≠ k) : put f k v i = f i := if_neg h
/-- A change of a transaction at a place; of a page. -/
def newT (o : Option (Int × Int)) (a : Int) : Int × Int := match o with | none => (a, a) | some x => (x.1, a)
def newP (o : Option Int) (a : Int) : Int := match o with | none => a | some x => x
/-- A checkpoint's row, beside what was there. -/
def joinT (o : Option (Int × Int)) (r : Int × Int) : Int × Int := match o with | none => r | some x => (min x.1 r.1, max x.2 r.2)
def joinP (o : Option Int) (r : Int) : Int := match o with | none => r | some x => min x r
def mergeT (f : TF) (r : Row3) : TF := put f r.1 (some (joinT (f r.1) r.2))
def mergeP (f : PF) (r : Row2) : PF := put f r.1 (some (joinP (f r.1) r.2))
def step (check : Int) (s : Ta) (x : En) : Ta :=
  if x.1 < check then s
  else if x.2.kind = 1 ∨ x.2.kind = 2 then ⟨put s.t x.2.txn (some (newT (s.t x.2.txn) x.1)), put s.p x.2.page (some (newP (s.p x.2.page) x.1))⟩
  else if x.2.kind = 3 ∨ x.2.kind = 4 then ⟨put s.t x.2.txn none, s.p⟩
  else if x.2.kind = 6 ∧ x.2.beg = check then ⟨x.2.txns.foldl mergeT s.t, x.2.pages.foldl mergeP s.p⟩
  else s
def from_ (check : Int) (s : Ta) (l : List En) : Ta := l.foldl (step check) s
def run (check : Int) (l : List En) : Ta := from_ check none_ l
def Found (l : List En) (check : Int) : Prop := check = 0 ∨ ∃ x ∈ l, x.1 = check ∧ x.2.kind = 5
instance (l : List En) (check : Int) : Decidable (Found l check) := inferInstanceAs (Decidable (_ ∨ _))
/-- Tables' error. -/
def tablesE (l : List En) (check : Int) : Nat := if Ch.Rises l then if Found l check then 0 else 7 else 3
/-- What is told of rows, rising. -/
structure TellsT (f : TF) (l : List Row3) : Prop where
  rise : l.Pairwise fun a b => a.1 < b.1
  all : ∀ n v, f n = some v ↔ (n, v) ∈ l
structure TellsP (f : PF) (l : List Row2) : Prop where
  rise : l.Pairwise fun a b => a.1 < b.1
  all : ∀ n v, f n = some v ↔ (n, v) ∈ l
theorem rise_eq {β : Type} : ∀ {l m : List (Int × β)}, (l.Pairwise fun a b => a.1 < b.1) → (m.Pairwise fun a b => a.1 < b.1) → (∀ x, x ∈ l ↔ x ∈ m) → l = m
  | [], [], _, _, _ => rfl
  | [], y :: m, _, _, h => absurd ((h y).2 List.mem_cons_self) (by simp)
  | x :: l, [], _, _, h => absurd ((h x).1 List.mem_cons_self) (by simp)
  | x :: l, y :: m, hl, hm, h => by
    obtain ⟨l1, l2⟩ := List.pairwise_cons.1 hl
    obtain ⟨m1, m2⟩ := List.pairwise_cons.1 hm
    have e : x = y := by
      rcases List.mem_cons.1 ((h x).1 List.mem_cons_self) with e | e
      · exact e
      · rcases List.mem_cons.1 ((h y).2 List.mem_cons_self) with e2 | e2
        · exact e2.symm
        · have := m1 x e
          have := l1 y e2
          omega
    subst e
    congr 1
    refine rise_eq l2 m2 fun z => ⟨fun hz => ?_, fun hz => ?_⟩
    · rcases List.mem_cons.1 ((h z).1 (List.mem_cons_of_mem _ hz)) with e | e
      · subst e; exact absurd (l1 z hz) (by omega)
      · exact e
    · rcases List.mem_cons.1 ((h z).2 (List.mem_cons_of_mem _ hz)) with e | e
      · subst e; exact absurd (m1 z hz) (by omega)
      · exact e
theorem TellsT.unique {f : TF} {l m : List Row3} (h : TellsT f l) (k : TellsT f m) : l = m :=
  rise_eq h.rise k.rise fun ⟨n, v⟩ => (h.all n v).symm.trans (k.all n v)
theorem TellsP.unique {f : PF} {l m : List Row2} (h : TellsP f l) (k : TellsP f m) : l = m :=
  rise_eq h.rise k.rise fun ⟨n, v⟩ => (h.all n v).symm.trans (k.all n v)

theorem step_low {check : Int} {s : Ta} {x : En} (h : x.1 < check) : step check s x = s := if_pos h
theorem from_low {check : Int} {s : Ta} : ∀ {l : List En}, (∀ x ∈ l, x.1 < check) → from_ check s l = s
  | [], _ => rfl
  | x :: l, h => by
    unfold from_
    rw [List.foldl_cons, step_low (h x List.mem_cons_self)]
    exact from_low fun y hy => h y (List.mem_cons_of_mem _ hy)
theorem from_app (check : Int) (s : Ta) (l m : List En) : from_ check s (l ++ m) = from_ check (from_ check s l) m := List.foldl_append
theorem from_one (check : Int) (s : Ta) (x : En) : from_ check s [x] = step check s x := rfl
/-- A record of a transaction's own. -/
def Own (x : En) : Prop := x.2.kind = 1 ∨ x.2.kind = 2 ∨ x.2.kind = 3 ∨ x.2.kind = 4
theorem step_own {c d : Int} {s : Ta} {x : En} (ho : Own x) (hc : c ≤ x.1) (hd : d ≤ x.1) : step c s x = step d s x := by
  unfold step
  rw [if_neg (show ¬ x.1 < c by omega), if_neg (show ¬ x.1 < d by omega)]
  by_cases h1 : x.2.kind = 1 ∨ x.2.kind = 2
  · rw [if_pos h1, if_pos h1]
  · rw [if_neg h1, if_neg h1]
    have h2 : x.2.kind = 3 ∨ x.2.kind = 4 := by rcases ho with h | h | h | h <;> omega
    rw [if_pos h2, if_pos h2]
theorem from_own {c d : Int} : ∀ {l : List En} {s : Ta}, (∀ x ∈ l, Own x ∧ c ≤ x.1 ∧ d ≤ x.1) → from_ c s l = from_ d s l
  | [], _, _ => rfl
  | x :: l, s, h => by
    unfold from_
    have hx := h x List.mem_cons_self
    rw [List.foldl_cons, List.foldl_cons, step_own hx.1 hx.2.1 hx.2.2]
    exact from_own fun y hy => h y (List.mem_cons_of_mem _ hy)
theorem step_begin {c : Int} {s : Ta} {x : En} (h : x.2.kind = 5) : step c s x = s := by
  unfold step
  split
  · rfl
  · rw [if_neg (show ¬ (x.2.kind = 1 ∨ x.2.kind = 2) by omega), if_neg (show ¬ (x.2.kind = 3 ∨ x.2.kind = 4) by omega), if_neg (show ¬ (x.2.kind = 6 ∧ x.2.beg = c) by omega)]
theorem step_other {c : Int} {s : Ta} {x : En} (h : x.2.kind = 6) (hb : x.2.beg ≠ c) : step c s x = s := by
  unfold step
  split
  · rfl
  · rw [if_neg (show ¬ (x.2.kind = 1 ∨ x.2.kind = 2) by omega), if_neg (show ¬ (x.2.kind = 3 ∨ x.2.kind = 4) by omega), if_neg (fun k => hb k.2)]
theorem step_tab {c : Int} {s : Ta} {x : En} (h : x.2.kind = 6) (hb : x.2.beg = c) (hc : c ≤ x.1) : step c s x = ⟨x.2.txns.foldl mergeT s.t, x.2.pages.foldl mergeP s.p⟩ := by
  unfold step
  rw [if_neg (show ¬ x.1 < c by omega), if_neg (show ¬ (x.2.kind = 1 ∨ x.2.kind = 2) by omega), if_neg (show ¬ (x.2.kind = 3 ∨ x.2.kind = 4) by omega), if_pos ⟨h, hb⟩]

/-- What the whole log tells (S), beside what is told from a place on (R); no row is above a place. -/
structure Beside (S R : Ta) (a : Int) : Prop where
  t : ∀ n v, R.t n = some v → ∃ f, S.t n = some (f, v.2) ∧ f ≤ v.1
  p : ∀ n v, R.p n = some v → ∃ f, S.p n = some f ∧ f ≤ v
  ft : ∀ n v, S.t n = some v → v.1 ≤ a
  fp : ∀ n v, S.p n = some v → v ≤ a
theorem Beside.step {S R : Ta} {a : Int} (h : Beside S R a) {x : En} (ho : Own x) (hx : 0 ≤ x.1) (ha : a ≤ x.1) : Beside (An.step 0 S x) (An.step 0 R x) x.1 := by
  unfold An.step
  have hn0 : ¬ x.1 < 0 := by omega
  rw [if_neg hn0, if_neg hn0]
  by_cases h1 : x.2.kind = 1 ∨ x.2.kind = 2
  · rw [if_pos h1, if_pos h1]
    refine ⟨fun n v hv => ?_, fun n v hv => ?_, fun n v hv => ?_, fun n v hv => ?_⟩
    · simp only at hv ⊢
      by_cases hn : n = x.2.txn
      · subst hn
        rw [put_at] at hv ⊢
        cases hv
        cases hr : R.t x.2.txn with
        | none =>
          cases hs : S.t x.2.txn with
          | none => exact ⟨x.1, rfl, Int.le_refl _⟩
          | some s => exact ⟨s.1, rfl, Int.le_trans (h.ft _ _ hs) ha⟩
        | some r =>
          obtain ⟨f, hf, hl⟩ := h.t _ _ hr
          rw [hf]
          exact ⟨f, rfl, hl⟩
      · rw [put_ne _ _ hn] at hv ⊢
        exact h.t n v hv
    · simp only at hv ⊢
      by_cases hn : n = x.2.page
      · subst hn
        rw [put_at] at hv ⊢
        cases hv
        cases hr : R.p x.2.page with
        | none =>
          cases hs : S.p x.2.page with
          | none => exact ⟨x.1, rfl, Int.le_refl _⟩
          | some s => exact ⟨s, rfl, Int.le_trans (h.fp _ _ hs) ha⟩
        | some r =>
          obtain ⟨f, hf, hl⟩ := h.p _ _ hr
          rw [hf]
          exact ⟨f, rfl, hl⟩
      · rw [put_ne _ _ hn] at hv ⊢
        exact h.p n v hv
    · simp only at hv
      by_cases hn : n = x.2.txn
      · subst hn
        rw [put_at] at hv
        cases hv
        cases hs : S.t x.2.txn with
        | none => exact Int.le_refl _
        | some s => exact Int.le_trans (show (newT (some s) x.1).1 ≤ a from h.ft _ s hs) ha
      · rw [put_ne _ _ hn] at hv
        exact Int.le_trans (h.ft n v hv) ha
    · simp only at hv
      by_cases hn : n = x.2.page
      · subst hn
        rw [put_at] at hv
        cases hv
        cases hs : S.p x.2.page with
        | none => exact Int.le_refl _
        | some s => exact Int.le_trans (show newP (some s) x.1 ≤ a from h.fp _ s hs) ha
      · rw [put_ne _ _ hn] at hv
        exact Int.le_trans (h.fp n v hv) ha
  · rw [if_neg h1, if_neg h1]
    have h2 : x.2.kind = 3 ∨ x.2.kind = 4 := by rcases ho with h | h | h | h <;> omega
    rw [if_pos h2, if_pos h2]
    refine ⟨fun n v hv => ?_, h.p, fun n v hv => ?_, fun n v hv => Int.le_trans (h.fp n v hv) ha⟩
    · simp only at hv ⊢
      by_cases hn : n = x.2.txn
      · subst hn
        rw [put_at] at hv
        cases hv
      · rw [put_ne _ _ hn] at hv ⊢
        exact h.t n v hv
    · simp only at hv
      by_cases hn : n = x.2.txn
      · subst hn
        rw [put_at] at hv
        cases hv
      · rw [put_ne _ _ hn] at hv
        exact Int.le_trans (h.ft n v hv) ha
/-- Places that rise from a on. -/
def Up (a : Int) : List En → Prop
  | [] => True
  | x :: l => a ≤ x.1 ∧ Up x.1 l
theorem Beside.all : ∀ {l : List En} {a : Int} {S R : Ta}, Beside S R a → (∀ x ∈ l, Own x) → 0 ≤ a → Up a l → ∃ b, Beside (An.from_ 0 S l) (An.from_ 0 R l) b
  | [], a, _, _, h, _, _, _ => ⟨a, h⟩
  | x :: l, a, _, _, h, ho, h0, hu => by
    have hs := h.step (ho x List.mem_cons_self) (by have := hu.1; omega) hu.1
    show ∃ b, Beside (An.from_ 0 (An.step 0 _ x) l) (An.from_ 0 (An.step 0 _ x) l) b
    exact Beside.all hs (fun y hy => ho y (List.mem_cons_of_mem _ hy)) (by have := hu.1; omega) hu.2
/-- Rows with unlike numbers, merged. -/
theorem merge_off : ∀ {T : List Row3} {f : TF} {n : Int}, (∀ x ∈ T, x.1 ≠ n) → (T.foldl mergeT f) n = f n
  | [], _, _, _ => rfl
  | x :: T, f, n, h => by
    rw [List.foldl_cons, merge_off fun y hy => h y (List.mem_cons_of_mem _ hy)]
    exact put_ne _ _ (Ne.symm (h x List.mem_cons_self))
theorem merge_on : ∀ {T : List Row3} {f : TF} {n : Int} {v : Int × Int}, (T.Pairwise fun a b => a.1 < b.1) → (n, v) ∈ T → (T.foldl mergeT f) n = some (joinT (f n) v)
  | x :: T, f, n, v, hp, hm => by
    obtain ⟨h1, h2⟩ := List.pairwise_cons.1 hp
    rw [List.foldl_cons]
    rcases List.mem_cons.1 hm with e | e
    · subst e
      rw [merge_off fun y hy => by have := h1 y hy; simp only at this; omega]
      exact put_at _ _ _
    · rw [merge_on h2 e]
      have := h1 _ e
      unfold mergeT
      rw [put_ne _ _ (by simp only at this; omega)]
theorem mergeP_off : ∀ {T : List Row2} {f : PF} {n : Int}, (∀ x ∈ T, x.1 ≠ n) → (T.foldl mergeP f) n = f n
  | [], _, _, _ => rfl
  | x :: T, f, n, h => by
    rw [List.foldl_cons, mergeP_off fun y hy => h y (List.mem_cons_of_mem _ hy)]
    exact put_ne _ _ (Ne.symm (h x List.mem_cons_self))
theorem mergeP_on : ∀ {T : List Row2} {f : PF} {n : Int} {v : Int}, (T.Pairwise fun a b => a.1 < b.1) → (n, v) ∈ T → (T.foldl mergeP f) n = some (joinP (f n) v)
  | x :: T, f, n, v, hp, hm => by
    obtain ⟨h1, h2⟩ := List.pairwise_cons.1 hp
    rw [List.foldl_cons]
    rcases List.mem_cons.1 hm with e | e
    · subst e
      rw [mergeP_off fun y hy => by have := h1 y hy; simp only at this; omega]
      exact put_at _ _ _
    · rw [mergeP_on h2 e]
      have := h1 _ e
      unfold mergeP
      rw [put_ne _ _ (by simp only at this; omega)]
/-- A checkpoint's tables, merged into what is told from the checkpoint on, are what the whole log tells. -/
theorem Beside.merged {S R : Ta} {a : Int} (h : Beside S R a) {T : List Row3} {P : List Row2} (hT : TellsT S.t T) (hP : TellsP S.p P) : (⟨T.foldl mergeT R.t, P.foldl mergeP R.p⟩ : Ta) = S := by
  refine Ta.ext' (fun n => ?_) fun n => ?_
  · simp only
    cases hs : S.t n with
    | none =>
      rw [merge_off fun x hx e => by
        subst e
        have := (hT.all x.1 x.2).2 hx
        rw [hs] at this
        cases this]
      cases hr : R.t n with
      | none => rfl
      | some v =>
        obtain ⟨f, hf, _⟩ := h.t n v hr
        rw [hs] at hf
        cases hf
    | some v =>
      rw [merge_on hT.rise ((hT.all n v).1 hs)]
      cases hr : R.t n with
      | none => rfl
      | some r =>
        obtain ⟨f, hf, hl⟩ := h.t n r hr
        rw [hs] at hf
        cases hf
        unfold joinT
        simp only
        rw [Int.min_eq_right hl, Int.max_self]
  · simp only
    cases hs : S.p n with
    | none =>
      rw [mergeP_off fun x hx e => by
        subst e
        have := (hP.all x.1 x.2).2 hx
        rw [hs] at this
        cases this]
      cases hr : R.p n with
      | none => rfl
      | some v =>
        obtain ⟨f, hf, _⟩ := h.p n v hr
        rw [hs] at hf
        cases hf
    | some v =>
      rw [mergeP_on hP.rise ((hP.all n v).1 hs)]
      cases hr : R.p n with
      | none => rfl
      | some r =>
        obtain ⟨f, hf, hl⟩ := h.p n r hr
        rw [hs] at hf
        cases hf
        unfold joinP
        simp only
        rw [Int.min_eq_right hl]
/-- THE STAGE'S THEOREM, plainly: records A, a checkpoint's begin at c, records B, its tables (those of A and B), records C. -/
theorem check {A B C : List En} {c d : Int} {b e : Rc} (hb : b.kind = 5) (he : e.kind = 6) (hec : e.beg = c) (hc : 0 < c) (hd : c ≤ d)
    (hA : ∀ x ∈ A, Own x ∧ x.1 < c) (hB : ∀ x ∈ B, Own x ∧ c ≤ x.1) (hC : ∀ x ∈ C, Own x ∧ c ≤ x.1) (hUA : Up 0 A) (hUB : Up c B)
    (hT : TellsT (run 0 (A ++ (c, b) :: B)).t e.txns) (hP : TellsP (run 0 (A ++ (c, b) :: B)).p e.pages) :
    run 0 (A ++ (c, b) :: (B ++ (d, e) :: C)) = run c (A ++ (c, b) :: (B ++ (d, e) :: C)) := by
  have h1 : ∀ (k : Int) (l : List En) (s : Ta), from_ k s ((c, b) :: l) = from_ k s l := fun k l s => by
    show from_ k (step k s (c, b)) l = _
    rw [step_begin hb]
  unfold run at hT hP ⊢
  rw [from_app, h1] at hT hP
  rw [from_app, from_app, h1, h1, from_app, from_app, from_low (check := c) fun x hx => (hA x hx).2]
  have hUp : ∀ (l : List En) (k : Int), 0 ≤ k → k ≤ c → Up c l → Up k l := fun l k _ hk hu => by
    cases l with
    | nil => trivial
    | cons x l => exact ⟨Int.le_trans hk hu.1, hu.2⟩
  have hA1 : ∀ (l : List En) (a : Int), (∀ x ∈ l, x.1 < c) → a ≤ c → Up a l → ∀ S : Ta, (∀ n v, S.t n = some v → v.1 ≤ a) → (∀ n v, S.p n = some v → v ≤ a) → (∀ x ∈ l, Own x) → 0 ≤ a →
      (∀ n v, (from_ 0 S l).t n = some v → v.1 ≤ c) ∧ (∀ n v, (from_ 0 S l).p n = some v → v ≤ c) := fun l => by
    induction l with
    | nil => exact fun a _ ha _ S h1 h2 _ _ => ⟨fun n v hv => Int.le_trans (h1 n v hv) ha, fun n v hv => Int.le_trans (h2 n v hv) ha⟩
    | cons x l ih =>
      intro a hl ha hu S h1 h2 ho h0
      have hs := (Beside.step (S := S) (R := S) (a := a) ⟨fun n v hv => ⟨v.1, hv, Int.le_refl _⟩, fun n v hv => ⟨v, hv, Int.le_refl _⟩, h1, h2⟩ (ho x List.mem_cons_self) (by have := hu.1; omega) hu.1)
      exact ih x.1 (fun y hy => hl y (List.mem_cons_of_mem _ hy)) (by have := hl x List.mem_cons_self; omega) hu.2 _ hs.ft hs.fp (fun y hy => ho y (List.mem_cons_of_mem _ hy)) (by have := hu.1; omega)
  have hAb := hA1 A 0 (fun x hx => (hA x hx).2) (by omega) hUA none_ (fun _ _ h => nomatch h) (fun _ _ h => nomatch h) (fun x hx => (hA x hx).1) (Int.le_refl _)
  obtain ⟨a, hq⟩ := Beside.all (l := B) (a := c) (S := from_ 0 none_ A) (R := none_) ⟨(fun _ _ h => nomatch h), (fun _ _ h => nomatch h), hAb.1, hAb.2⟩ (fun x hx => (hB x hx).1) (by omega) hUB
  have hm := hq.merged hT hP
  have e0 : ∀ s : Ta, from_ 0 s ((d, e) :: C) = from_ 0 s C := fun s => by
    show from_ 0 (step 0 s (d, e)) C = _
    rw [step_other he (by show e.beg ≠ 0; omega)]
  have e1 : ∀ s : Ta, from_ c s ((d, e) :: C) = from_ c ⟨e.txns.foldl mergeT s.t, e.pages.foldl mergeP s.p⟩ C := fun s => by
    show from_ c (step c s (d, e)) C = _
    rw [step_tab he hec hd]
  rw [e0, e1, ← from_own (c := 0) (d := c) (l := B) (fun x hx => ⟨(hB x hx).1, by have := (hB x hx).2; omega, (hB x hx).2⟩), hm]
  exact from_own fun x hx => ⟨(hC x hx).1, by have := (hC x hx).2; omega, (hC x hx).2⟩
end An
end Go.Proofs.Ytgjkhjlobfblcaa
