/- Analysis as plain data: what AnalysisCheck writes down, round by round: own records, a checkpoint's begin, its tables. Nothing of the program is imported. -/
import Derived.Test.YtgjkhjlobfblcaaAnC
namespace Go.Proofs.Ytgjkhjlobfblcaa
namespace An

def bgR : Rc := ⟨5, 0, 0, 0, 0, 0, 0, ⟨#[]⟩, ⟨#[]⟩, [], []⟩
def tbR (c : Int) (T : List Row3) (P : List Row2) : Rc := ⟨6, 0, 0, 0, 0, 0, c, ⟨#[]⟩, ⟨#[]⟩, T, P⟩
/-- What one round writes down. -/
def piece (own : List Rc) (b e : Nat) (tab : Rc) (j : Nat) : List Rc := ((if j = b then [bgR] else []) ++ (if j = e then [tab] else [])) ++ (own[j]?).toList
def recs (own : List Rc) (b e : Nat) (tab : Rc) (i : Nat) : List Rc := (List.range i).flatMap (piece own b e tab)
theorem recs_succ (own : List Rc) (b e : Nat) (tab : Rc) (i : Nat) : recs own b e tab (i + 1) = recs own b e tab i ++ piece own b e tab i := by
  unfold recs
  rw [List.range_succ, List.flatMap_append]
  simp
theorem take_drop {own : List Rc} {b i : Nat} (h1 : b ≤ i) (h2 : b ≤ own.length) : (own.take (i + 1)).drop b = (own.take i).drop b ++ (own[i]?).toList := by
  rw [List.take_add_one, List.drop_append_of_le_length (by rw [List.length_take]; omega)]
theorem recs_lo {own : List Rc} {b e : Nat} {tab : Rc} (hbe : b ≤ e) : ∀ i, i ≤ b → recs own b e tab i = own.take i
  | 0, _ => by simp [recs]
  | i + 1, h => by
    rw [recs_succ, recs_lo hbe i (by omega), List.take_add_one]
    unfold piece
    rw [if_neg (by omega), if_neg (by omega)]
    rfl
theorem recs_mid {own : List Rc} {b e : Nat} {tab : Rc} (hbe : b ≤ e) (he : e ≤ own.length) : ∀ i, b < i → i ≤ e → recs own b e tab i = own.take b ++ bgR :: (own.take i).drop b
  | 0, h, _ => by omega
  | i + 1, h, h2 => by
    rw [recs_succ, take_drop (by omega) (by omega)]
    unfold piece
    rw [if_neg (show ¬ i = e by omega)]
    by_cases hb : i = b
    · subst hb
      rw [if_pos rfl, recs_lo hbe i (Nat.le_refl _)]
      rw [show (own.take i).drop i = [] from List.drop_eq_nil_of_le (by rw [List.length_take]; omega)]
      simp
    · rw [if_neg hb, recs_mid hbe he i (by omega) (by omega)]
      simp
/-- What stands behind the checkpoint's begin, just ahead of its tables. -/
theorem recs_at {own : List Rc} {b e : Nat} {tab : Rc} (hbe : b ≤ e) (he : e ≤ own.length) : recs own b e tab e ++ (if e = b then [bgR] else []) = own.take b ++ bgR :: (own.take e).drop b := by
  by_cases hb : e = b
  · subst hb
    rw [if_pos rfl, recs_lo (Nat.le_refl _) e (Nat.le_refl _)]
    rw [show (own.take e).drop e = [] from List.drop_eq_nil_of_le (by rw [List.length_take]; omega)]
  · rw [if_neg hb, recs_mid hbe he e (by omega) (Nat.le_refl _)]
    simp
theorem recs_hi {own : List Rc} {b e : Nat} {tab : Rc} (hbe : b ≤ e) (he : e ≤ own.length) : ∀ i, e < i → recs own b e tab i = own.take b ++ bgR :: ((own.take e).drop b ++ tab :: (own.take i).drop e)
  | 0, h => by omega
  | i + 1, h => by
    rw [recs_succ, take_drop (b := e) (by omega) he]
    unfold piece
    by_cases hb : i = e
    · subst hb
      rw [if_pos rfl, ← List.append_assoc (recs own b i tab i), ← List.append_assoc (recs own b i tab i), recs_at hbe he]
      rw [show (own.take i).drop i = [] from List.drop_eq_nil_of_le (by rw [List.length_take]; omega)]
      simp
    · rw [if_neg (show ¬ i = b by omega), if_neg hb, recs_hi hbe he i (by omega)]
      simp
theorem recs_len {own : List Rc} {b e : Nat} {tab : Rc} (i : Nat) : (recs own b e tab i).length ≤ 3 * i := by
  induction i with
  | zero => simp [recs]
  | succ i ih =>
    rw [recs_succ, List.length_append]
    have : (piece own b e tab i).length ≤ 3 := by
      unfold piece
      rw [List.length_append, List.length_append]
      have h1 : (if i = b then [bgR] else []).length ≤ 1 := by split <;> simp
      have h2 : (if i = e then [tab] else []).length ≤ 1 := by split <;> simp
      have h3 : (own[i]?).toList.length ≤ 1 := by cases own[i]? <;> simp
      omega
    omega
/-- The tables are of no account ahead of them. -/
theorem recs_tab {own : List Rc} {b e : Nat} (t u : Rc) : ∀ i, i ≤ e → recs own b e t i = recs own b e u i
  | 0, _ => rfl
  | i + 1, h => by
    rw [recs_succ, recs_succ, recs_tab t u i (by omega)]
    unfold piece
    rw [if_neg (show ¬ i = e by omega), if_neg (show ¬ i = e by omega)]

/-- Records with the places that they get. -/
def place : Nat → List Rc → List En
  | _, [] => []
  | k, r :: l => (128 + 10 * (k : Int), r) :: place (k + 1) l
theorem place_app : ∀ (l m : List Rc) (k : Nat), place k (l ++ m) = place k l ++ place (k + l.length) m
  | [], m, k => rfl
  | r :: l, m, k => by
    show _ :: place (k + 1) (l ++ m) = _ :: (place (k + 1) l ++ _)
    rw [place_app l m (k + 1), List.length_cons, show k + 1 + l.length = k + (l.length + 1) by omega]
theorem place_len : ∀ (l : List Rc) (k : Nat), (place k l).length = l.length
  | [], _ => rfl
  | r :: l, k => by
    show (place (k + 1) l).length + 1 = _
    rw [place_len l, List.length_cons]
theorem place_mem : ∀ {l : List Rc} {k : Nat} {x : En}, x ∈ place k l → x.2 ∈ l ∧ 128 + 10 * (k : Int) ≤ x.1 ∧ x.1 < 128 + 10 * ((k + l.length : Nat) : Int)
  | [], _, _, h => by cases h
  | r :: l, k, x, h => by
    rcases List.mem_cons.1 h with rfl | h
    · exact ⟨List.mem_cons_self, Int.le_refl _, by simp only [List.length_cons]; omega⟩
    · have := place_mem h
      exact ⟨List.mem_cons_of_mem _ this.1, by omega, by simp only [List.length_cons]; omega⟩
theorem place_rises : ∀ (l : List Rc) (k : Nat), Ch.Rises (place k l)
  | [], _ => List.Pairwise.nil
  | r :: l, k => List.pairwise_cons.2 ⟨fun x hx => by have := (place_mem hx).2.1; simp only; omega, place_rises l (k + 1)⟩
theorem place_up : ∀ (l : List Rc) (k : Nat) (a : Int), a ≤ 128 + 10 * (k : Int) → Up a (place k l)
  | [], _, _, _ => trivial
  | r :: l, k, a, h => ⟨h, place_up l (k + 1) _ (by omega)⟩
def OwnR (r : Rc) : Prop := r.kind = 1 ∨ r.kind = 2 ∨ r.kind = 3 ∨ r.kind = 4
theorem check_recs {own : List Rc} (ho : ∀ r ∈ own, OwnR r) {b e : Nat} (hbe : b ≤ e) (he : e ≤ own.length) {c : Int} (hc : c = 128 + 10 * (b : Int)) {T : List Row3} {P : List Row2}
    (hT : TellsT (run 0 (place 0 (own.take b ++ bgR :: (own.take e).drop b))).t T) (hP : TellsP (run 0 (place 0 (own.take b ++ bgR :: (own.take e).drop b))).p P) :
    run 0 (place 0 (recs own b e (tbR c T P) (own.length + 1))) = run c (place 0 (recs own b e (tbR c T P) (own.length + 1))) ∧
    tablesE (place 0 (recs own b e (tbR c T P) (own.length + 1))) 0 = 0 ∧ tablesE (place 0 (recs own b e (tbR c T P) (own.length + 1))) c = 0 := by
  have hr := place_rises (recs own b e (tbR c T P) (own.length + 1)) 0
  have hlb : (own.take b).length = b := by rw [List.length_take]; omega
  have e1 : place 0 (recs own b e (tbR c T P) (own.length + 1)) = place 0 (own.take b) ++ (c, bgR) :: (place (b + 1) ((own.take e).drop b) ++ (128 + 10 * ((b + 1 + ((own.take e).drop b).length : Nat) : Int), tbR c T P) :: place (b + 1 + ((own.take e).drop b).length + 1) (own.drop e)) := by
    rw [recs_hi hbe he _ (by omega), List.take_of_length_le (by omega : own.length ≤ own.length + 1), place_app, hlb, Nat.zero_add]
    congr 1
    show (128 + 10 * (b : Int), bgR) :: place (b + 1) _ = _
    rw [place_app, ← hc]
    rfl
  have e2 : place 0 (own.take b ++ bgR :: (own.take e).drop b) = place 0 (own.take b) ++ (c, bgR) :: place (b + 1) ((own.take e).drop b) := by
    rw [place_app, hlb, Nat.zero_add, hc]
    rfl
  refine ⟨?_, ?_, ?_⟩
  · rw [e1]
    rw [e2] at hT hP
    refine check (e := tbR c T P) rfl rfl rfl (by omega) (by omega) (fun x hx => ?_) (fun x hx => ?_) (fun x hx => ?_) (place_up _ _ _ (by omega)) (place_up _ _ _ (by omega)) hT hP
    · have := place_mem hx
      exact ⟨ho _ (List.mem_of_mem_take this.1), by rw [hlb] at this; omega⟩
    · have := place_mem hx
      exact ⟨ho _ (List.mem_of_mem_take (List.mem_of_mem_drop this.1)), by omega⟩
    · have := place_mem hx
      exact ⟨ho _ (List.mem_of_mem_drop this.1), by omega⟩
  · unfold tablesE
    rw [if_pos hr, if_pos (.inl rfl)]
  · unfold tablesE
    rw [if_pos hr, if_pos]
    refine .inr ⟨(c, bgR), ?_, rfl, rfl⟩
    rw [e1]
    exact List.mem_append_right _ List.mem_cons_self
theorem recs_mem {own : List Rc} {b e : Nat} {tab r : Rc} : ∀ {i : Nat}, r ∈ recs own b e tab i → r = bgR ∨ r = tab ∨ r ∈ own
  | 0, h => by cases h
  | i + 1, h => by
    rw [recs_succ] at h
    rcases List.mem_append.1 h with h | h
    · exact recs_mem h
    · unfold piece at h
      rcases List.mem_append.1 h with h | h
      · rcases List.mem_append.1 h with h | h
        · split at h
          · exact .inl (List.mem_singleton.1 h)
          · cases h
        · split at h
          · exact .inr (.inl (List.mem_singleton.1 h))
          · cases h
      · cases ho : own[i]? with
        | none => rw [ho] at h; cases h
        | some x =>
          rw [ho] at h
          rw [show r = x from List.mem_singleton.1 h]
          exact .inr (.inr (List.mem_of_getElem? ho))
theorem nodup_len : ∀ {l K : List Int}, l.Nodup → (∀ x ∈ l, x ∈ K) → l.length ≤ K.length
  | [], _, _, _ => Nat.zero_le _
  | x :: l, K, hn, hs => by
    obtain ⟨h1, h2⟩ := List.nodup_cons.1 hn
    have hx := hs x List.mem_cons_self
    have := nodup_len (l := l) (K := K.erase x) h2 fun y hy => (List.mem_erase_of_ne fun e => h1 (by rw [← e]; exact hy)).2 (hs y (List.mem_cons_of_mem _ hy))
    rw [List.length_erase_of_mem hx] at this
    have : 0 < K.length := List.length_pos_of_mem hx
    rw [List.length_cons]
    omega
theorem tellsT_len {c : Int} {l : List En} {T : List Row3} (h : TellsT (run c l).t T) : T.length ≤ (keysT l).length := by
  have := nodup_len (l := T.map (·.1)) (K := keysT l) (by rw [List.nodup_iff_pairwise_ne, List.pairwise_map]; exact h.rise.imp fun h => by omega) fun x hx => by
    obtain ⟨y, hy, rfl⟩ := List.mem_map.1 hx
    exact run_keyT (c := c) (by rw [(h.all y.1 y.2).2 hy]; simp)
  rwa [List.length_map] at this
theorem tellsP_len {c : Int} {l : List En} {P : List Row2} (h : TellsP (run c l).p P) : P.length ≤ (keysP l).length := by
  have := nodup_len (l := P.map (·.1)) (K := keysP l) (by rw [List.nodup_iff_pairwise_ne, List.pairwise_map]; exact h.rise.imp fun h => by omega) fun x hx => by
    obtain ⟨y, hy, rfl⟩ := List.mem_map.1 hx
    exact run_keyP (c := c) (by rw [(h.all y.1 y.2).2 hy]; simp)
  rwa [List.length_map] at this
end An
end Go.Proofs.Ytgjkhjlobfblcaa
