/- Chain, the changes that stand, Undo as plain data; what the stage's consequences say of them. -/
import Derived.Test.YtkodnjefdophmaaChA
namespace Go.Proofs.Ytkodnjefdophmaa
namespace Ch

/-- The stops: at none; at none, or at a place that isn't above one. -/
def st0 (p : Int) : Bool := p == 0
def stS (s p : Int) : Bool := p == 0 || decide (p ≤ s)
/-- The updates among them. -/
def upd (l : List En) : List En := l.filter fun x => x.2.kind == 1
/-- What undoes an update. -/
def undoOf (t : Int) (x : En) : Rc := Rc.und t 0 x.2.prev x.2.page x.2.off x.2.before
def chain (l : List En) (t p : Int) : List Int × Nat :=
  if ¬ Rises l then ([], 3) else if (follow l t false st0 p).2 = 0 then ((follow l t false st0 p).1.map Prod.fst, 0) else ([], (follow l t false st0 p).2)
def stand (l : List En) (t p : Int) : List Int × Nat :=
  if ¬ Rises l then ([], 3) else if (follow l t true st0 p).2 = 0 then ((upd (follow l t true st0 p).1).map Prod.fst, 0) else ([], (follow l t true st0 p).2)
def undo (l : List En) (t p s : Int) : List Rc × Nat :=
  if ¬ Rises l then ([], 3) else if (follow l t true (stS s) p).2 = 0 then ((upd (follow l t true (stS s) p).1).map (undoOf t), 0) else ([], (follow l t true (stS s) p).2)
section
variable {l : List En} {t p s : Int}
theorem chain_ok (h : (chain l t p).2 = 0) : Rises l ∧ (follow l t false st0 p).2 = 0 ∧ (chain l t p).1 = (follow l t false st0 p).1.map Prod.fst := by
  unfold chain at *
  by_cases h1 : Rises l
  · by_cases h2 : (follow l t false st0 p).2 = 0
    · exact ⟨h1, h2, by simp [h1, h2]⟩
    · simp [h1, h2] at h
  · simp [h1] at h
theorem stand_ok (h : (stand l t p).2 = 0) : Rises l ∧ (follow l t true st0 p).2 = 0 ∧ (stand l t p).1 = (upd (follow l t true st0 p).1).map Prod.fst := by
  unfold stand at *
  by_cases h1 : Rises l
  · by_cases h2 : (follow l t true st0 p).2 = 0
    · exact ⟨h1, h2, by simp [h1, h2]⟩
    · simp [h1, h2] at h
  · simp [h1] at h
theorem undo_ok (h : (undo l t p s).2 = 0) : Rises l ∧ (follow l t true (stS s) p).2 = 0 ∧ (undo l t p s).1 = (upd (follow l t true (stS s) p).1).map (undoOf t) := by
  unfold undo at *
  by_cases h1 : Rises l
  · by_cases h2 : (follow l t true (stS s) p).2 = 0
    · exact ⟨h1, h2, by simp [h1, h2]⟩
    · simp [h1, h2] at h
  · simp [h1] at h
theorem undo_mk (h1 : Rises l) (h2 : (follow l t true (stS s) p).2 = 0) : undo l t p s = ((upd (follow l t true (stS s) p).1).map (undoOf t), 0) := by
  unfold undo; simp [h1, h2]
theorem stand_mk (h1 : Rises l) (h2 : (follow l t true st0 p).2 = 0) : stand l t p = ((upd (follow l t true st0 p).1).map Prod.fst, 0) := by
  unfold stand; simp [h1, h2]
/-- What is nowhere told where there is an error. -/
theorem chain_bad (h : (chain l t p).2 ≠ 0) : (chain l t p).1 = [] := by
  unfold chain at *
  by_cases h1 : Rises l
  · by_cases h2 : (follow l t false st0 p).2 = 0
    · simp [h1, h2] at h
    · simp [h1, h2]
  · simp [h1]
theorem undo_bad (h : (undo l t p s).2 ≠ 0) : (undo l t p s).1 = [] := by
  unfold undo at *
  by_cases h1 : Rises l
  · by_cases h2 : (follow l t true (stS s) p).2 = 0
    · simp [h1, h2] at h
    · simp [h1, h2]
  · simp [h1]
/-- The chain falls. -/
theorem chain_falls (l : List En) (t p : Int) : (chain l t p).1.Pairwise fun a b => b < a := by
  by_cases h : (chain l t p).2 = 0
  · rw [(chain_ok h).2.2, List.pairwise_map]
    exact follow_falls l t false st0 p
  · rw [chain_bad h]; exact .nil
theorem chain_len (l : List En) (t p : Int) : (chain l t p).1.length ≤ l.length := by
  by_cases h : (chain l t p).2 = 0
  · rw [(chain_ok h).2.2, List.length_map]
    exact Nat.le_trans (follow_len l t false st0 p) (rank_le l p)
  · rw [chain_bad h]; exact Nat.zero_le _
theorem undo_len (l : List En) (t p s : Int) : (undo l t p s).1.length ≤ l.length := by
  by_cases h : (undo l t p s).2 = 0
  · rw [(undo_ok h).2.2, List.length_map]
    exact Nat.le_trans (List.length_filter_le _ _) (Nat.le_trans (follow_len l t true (stS s) p) (rank_le l p))
  · rw [undo_bad h]; exact Nat.zero_le _
/-- As many changes stand as there are undos of them, at least. -/
theorem counts (h1 : (stand l t p).2 = 0) (h2 : (undo l t p s).2 = 0) : (undo l t p s).1.length ≤ (stand l t p).1.length := by
  obtain ⟨_, a1, a2⟩ := stand_ok h1
  obtain ⟨_, _, b2⟩ := undo_ok h2
  obtain ⟨_, q, c, _⟩ := follow_earlier (stop' := stS s) l t true (fun p h => by unfold st0 at h; unfold stS; simp_all) p a1
  rw [a2, b2, List.length_map, List.length_map, c]
  unfold upd
  rw [List.filter_append, List.length_append]
  omega
theorem filter_last {α : Type} {f : α → Bool} {x : α} : ∀ {l U : List α}, l.filter f = U ++ [x] → ∃ A B, l = A ++ x :: B ∧ A.filter f = U ∧ B.filter f = []
  | [], U, h => by simp at h
  | y :: l, U, h => by
    cases hy : f y with
    | false =>
      rw [List.filter_cons_of_neg (by rw [hy]; decide)] at h
      obtain ⟨A, B, rfl, h1, h2⟩ := filter_last h
      exact ⟨y :: A, B, rfl, by rw [List.filter_cons_of_neg (by rw [hy]; decide), h1], h2⟩
    | true =>
      rw [List.filter_cons_of_pos hy] at h
      cases U with
      | nil =>
        simp only [List.nil_append, List.cons.injEq] at h
        obtain ⟨rfl, h⟩ := h
        exact ⟨[], l, rfl, rfl, h⟩
      | cons u U =>
        simp only [List.cons_append, List.cons.injEq] at h
        obtain ⟨rfl, h⟩ := h
        obtain ⟨A, B, rfl, h1, h2⟩ := filter_last h
        exact ⟨y :: A, B, rfl, by rw [List.filter_cons_of_pos hy, h1], h2⟩
theorem filter_first {α : Type} {f : α → Bool} {x : α} : ∀ {l U : List α}, l.filter f = x :: U → ∃ A B, l = A ++ x :: B ∧ A.filter f = [] ∧ B.filter f = U
  | [], U, h => by simp at h
  | y :: l, U, h => by
    cases hy : f y with
    | false =>
      rw [List.filter_cons_of_neg (by rw [hy]; decide)] at h
      obtain ⟨A, B, rfl, h1, h2⟩ := filter_first h
      exact ⟨y :: A, B, rfl, by rw [List.filter_cons_of_neg (by rw [hy]; decide), h1], h2⟩
    | true =>
      rw [List.filter_cons_of_pos hy] at h
      simp only [List.cons.injEq] at h
      obtain ⟨rfl, h⟩ := h
      exact ⟨[], l, rfl, rfl, h⟩
theorem nxt_upd {r : Rc} (h : r.kind = 1) (m : Bool) : nxt m r = r.prev := by
  unfold nxt
  rw [if_neg (by rw [h]; omega)]
/-- What undoes down to a place is the first part of what undoes all; what undoes from there on is the rest. -/
theorem stops (h : (undo l t p 0).2 = 0) (hs : 0 ≤ s) : (undo l t p s).2 = 0 ∧ ∃ rest, (undo l t p 0).1 = (undo l t p s).1 ++ rest ∧ ∀ U (x : Rc), (undo l t p s).1 = U ++ [x] → undo l t x.next 0 = (rest, 0) := by
  obtain ⟨hr, a1, a2⟩ := undo_ok h
  obtain ⟨b1, q, c, c2⟩ := follow_earlier (stop' := stS s) l t true (fun p h => by unfold stS at *; simp at *; omega) p a1
  have e : undo l t p s = ((upd (follow l t true (stS s) p).1).map (undoOf t), 0) := undo_mk hr b1
  refine ⟨by rw [e], (upd (follow l t true (stS 0) q).1).map (undoOf t), ?_, fun U x hU => ?_⟩
  · rw [a2, e, c]
    unfold upd
    rw [List.filter_append, List.map_append]
  · rw [e] at hU
    simp only at hU
    obtain ⟨U', y', hU', hU2, hx⟩ := List.map_eq_append_iff.1 hU
    obtain ⟨y, rfl, rfl⟩ : ∃ y, y' = [y] ∧ undoOf t y = x := by
      match y', hx with
      | [y], hx => exact ⟨y, rfl, by simpa using hx⟩
    obtain ⟨A, B, hl, hA, hB⟩ := filter_last hU'
    have hy : y.2.kind = 1 := by
      have : y ∈ upd (follow l t true (stS s) p).1 := by
        rw [hU']; simp
      have := (List.mem_filter.1 this).2
      simpa using this
    have hb := follow_behind l t true (stS 0) p A (B ++ (follow l t true (stS 0) q).1) y (by rw [c, hl]; simp)
    rw [nxt_upd hy, a1] at hb
    show undo l t y.2.prev 0 = _
    rw [undo_mk hr (by rw [hb]), hb]
    simp only [upd, List.filter_append, hB, List.nil_append]
/-- Records of others between change nothing. -/
theorem other (h : (undo l t p s).2 = 0) : undo (l.filter fun x => x.2.txn == t) t p s = undo l t p s := by
  obtain ⟨hr, a1, a2⟩ := undo_ok h
  have e := follow_over (l := l) (l' := l.filter fun x => x.2.txn == t) (t := t) (m := true) (stop := stS s) (fun p r _ hp => at_own hr hp) p a1
  rw [undo_mk hr a1, undo_mk (List.Pairwise.filter _ hr) (by rw [e]; exact a1), e]
end
/-- A log of one transaction that is written on, and what undoes it. -/
structure Log (l : List En) (t last at0 : Int) (U : List Rc) : Prop where
  rise : Rises l
  below : ∀ x ∈ l, x.1 < at0
  least : ∀ x ∈ l, 0 ≤ x.2.prev ∧ 0 ≤ x.2.next
  lastIn : 0 ≤ last ∧ last < at0
  undoes : undo l t last 0 = (U, 0)
namespace Log
variable {l : List En} {t last at0 : Int} {U : List Rc}
theorem nil (t at0 : Int) (h : 0 < at0) : Log [] t 0 at0 [] :=
  ⟨.nil, nofun, nofun, ⟨Int.le_refl _, h⟩, by rw [undo_mk .nil (by rw [follow_stop (by rfl)]), follow_stop (by rfl)]; rfl⟩
theorem rises (h : Log l t last at0 U) (r : Rc) : Rises (l ++ [(at0, r)]) :=
  List.pairwise_append.2 ⟨h.rise, List.pairwise_singleton _ _, fun x hx y hy => by simp at hy; subst hy; exact h.below x hx⟩
theorem more (h : Log l t last at0 U) {r : Rc} {U' : List Rc} (hp : 0 ≤ r.prev ∧ 0 ≤ r.next) (hU : Ch.undo (l ++ [(at0, r)]) t at0 0 = (U', 0)) : Log (l ++ [(at0, r)]) t at0 (at0 + 10) U' :=
  ⟨h.rises r, fun x hx => by
    rcases List.mem_append.1 hx with hx | hx
    · have := h.below x hx; omega
    · simp at hx; subst hx; show at0 < at0 + 10; omega, fun x hx => by
    rcases List.mem_append.1 hx with hx | hx
    · exact h.least x hx
    · simp at hx; subst hx; exact hp, ⟨by have := h.lastIn; omega, by omega⟩, hU⟩
theorem stop_at (h : Log l t last at0 U) : stS 0 at0 = false := by
  have := h.lastIn
  unfold stS
  simp
  omega
/-- An update more. -/
theorem update (h : Log l t last at0 U) {r : Rc} (hk : r.kind = 1) (ht : r.txn = t) (hp : r.prev = last) (hn : 0 ≤ r.next) : Log (l ++ [(at0, r)]) t at0 (at0 + 10) (undoOf t (at0, r) :: U) := by
  have hl := h.lastIn
  refine h.more ⟨by omega, hn⟩ ?_
  have hb : ¬ Bad t at0 r := by unfold Bad; omega
  have ha : at_ (l ++ [(at0, r)]) t at0 = (r, 0) := at_new (x := (at0, r)) h.below hb
  obtain ⟨_, f0, fU⟩ := undo_ok (by rw [h.undoes])
  have fs := follow_step (m := true) h.stop_at ha
  rw [nxt_upd hk, hp, follow_snoc (x := (at0, r)) hl.2] at fs
  rw [undo_mk (h.rises r) (by rw [fs]; exact f0), fs]
  rw [h.undoes] at fU
  have hk' : ((at0, r) : En).2.kind == 1 := by simpa using hk
  show (List.map (undoOf t) (List.filter (fun x : En => x.2.kind == 1) _), 0) = _
  rw [List.filter_cons_of_pos (p := fun x : En => x.2.kind == 1) hk', List.map_cons]
  change U = List.map (undoOf t) (List.filter (fun x : En => x.2.kind == 1) _) at fU
  rw [← fU]
/-- The first of what undoes it, written. -/
theorem undone (h : Log l t last at0 U) {u r : Rc} {U' : List Rc} (hU : U = u :: U') (hk : r.kind = 2) (ht : r.txn = t) (hp : r.prev = last) (hn : r.next = u.next) : Log (l ++ [(at0, r)]) t at0 (at0 + 10) U' := by
  have hl := h.lastIn
  obtain ⟨_, f0, fU⟩ := undo_ok (by rw [h.undoes])
  rw [h.undoes, hU] at fU
  simp only at fU
  cases hf : upd (follow l t true (stS 0) last).1 with
  | nil => rw [hf] at fU; simp at fU
  | cons x V =>
    rw [hf] at fU
    simp only [List.map_cons, List.cons.injEq] at fU
    obtain ⟨A, B, hA, _, hB⟩ := filter_first hf
    have hx : x ∈ upd (follow l t true (stS 0) last).1 := by rw [hf]; exact .head _
    have hxk : x.2.kind = 1 := by simpa using (List.mem_filter.1 hx).2
    have hxm := follow_mem l t true (stS 0) last x (List.mem_filter.1 hx).1
    have hlx := h.least x hxm.1
    have hpx : x.2.prev < x.1 := by have := nxt_lt hxm.2.2 true; rwa [nxt_upd hxk] at this
    have hu : u.next = x.2.prev := by rw [fU.1]; rfl
    have hb : ¬ Bad t at0 r := by unfold Bad; omega
    have ha : at_ (l ++ [(at0, r)]) t at0 = (r, 0) := at_new (x := (at0, r)) h.below hb
    refine h.more ⟨by omega, by omega⟩ ?_
    have fs := follow_step (m := true) h.stop_at ha
    have hnx : nxt true r = x.2.prev := by unfold nxt; rw [if_pos ⟨rfl, hk⟩]; omega
    have hbh := follow_behind l t true (stS 0) last A B x hA
    rw [nxt_upd hxk, f0] at hbh
    rw [hnx, follow_snoc (x := (at0, r)) (show x.2.prev < at0 by omega), hbh] at fs
    rw [undo_mk (h.rises r) (by rw [fs]), fs]
    have hk' : ¬ ((at0, r) : En).2.kind == 1 := by simp [hk]
    simp only [upd, List.filter_cons_of_neg (p := fun x : En => x.2.kind == 1) hk']
    rw [hB, fU.2]
/-- All undone: none stands. -/
theorem done (h : Log l t last at0 []) : stand l t last = ([], 0) := by
  obtain ⟨hr, f0, fU⟩ := undo_ok (by rw [h.undoes])
  rw [h.undoes] at fU
  have e : follow l t true st0 last = follow l t true (stS 0) last := follow_stops 0 (fun p hp => by
      unfold stS st0
      by_cases h : p = 0
      · simp [h]
      · have : ¬ p ≤ 0 := by omega
        simp [this]) (fun x hx => by
      have := h.least x hx
      unfold nxt
      split <;> omega) last h.lastIn.1
  rw [stand_mk hr (by rw [e]; exact f0), e]
  have : upd (follow l t true (stS 0) last).1 = [] := List.map_eq_nil_iff.1 fU.symm
  rw [this]
  rfl
end Log
end Ch
end Go.Proofs.Ytkodnjefdophmaa
