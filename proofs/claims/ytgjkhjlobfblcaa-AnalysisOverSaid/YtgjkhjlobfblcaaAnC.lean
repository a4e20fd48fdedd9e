/- Analysis as plain data: rows are finite: whoever has one is named in the list; what Found says of a list that rises. Nothing of the program is imported. -/
import Derived.Test.YtgjkhjlobfblcaaAnB
namespace Go.Proofs.Ytgjkhjlobfblcaa
namespace An

def keysT (l : List En) : List Int := l.flatMap fun x => x.2.txn :: x.2.txns.map (·.1)
def keysP (l : List En) : List Int := l.flatMap fun x => x.2.page :: x.2.pages.map (·.1)
theorem put_some {α : Type} {f : Int → Option α} {k n : Int} {v : Option α} (h : put f k v n ≠ none) : n = k ∨ f n ≠ none := by
  by_cases e : n = k
  · exact .inl e
  · rw [put_ne _ _ e] at h; exact .inr h
theorem merge_some : ∀ {T : List Row3} {f : TF} {n : Int}, (T.foldl mergeT f) n ≠ none → f n ≠ none ∨ n ∈ T.map (·.1)
  | [], _, _, h => .inl h
  | x :: T, f, n, h => by
    rcases merge_some (T := T) h with h | h
    · rcases put_some h with e | h
      · exact .inr (by rw [e]; exact List.mem_cons_self)
      · exact .inl h
    · exact .inr (List.mem_cons_of_mem _ h)
theorem mergeP_some : ∀ {T : List Row2} {f : PF} {n : Int}, (T.foldl mergeP f) n ≠ none → f n ≠ none ∨ n ∈ T.map (·.1)
  | [], _, _, h => .inl h
  | x :: T, f, n, h => by
    rcases mergeP_some (T := T) h with h | h
    · rcases put_some h with e | h
      · exact .inr (by rw [e]; exact List.mem_cons_self)
      · exact .inl h
    · exact .inr (List.mem_cons_of_mem _ h)
theorem step_keyT {c : Int} {s : Ta} {x : En} {n : Int} (h : (step c s x).t n ≠ none) : s.t n ≠ none ∨ n ∈ x.2.txn :: x.2.txns.map (·.1) := by
  unfold step at h
  split at h
  · exact .inl h
  · split at h
    · rcases put_some h with e | h
      · exact .inr (by rw [e]; exact List.mem_cons_self)
      · exact .inl h
    · split at h
      · rcases put_some h with e | h
        · exact .inr (by rw [e]; exact List.mem_cons_self)
        · exact .inl h
      · split at h
        · rcases merge_some h with h | h
          · exact .inl h
          · exact .inr (List.mem_cons_of_mem _ h)
        · exact .inl h
theorem step_keyP {c : Int} {s : Ta} {x : En} {n : Int} (h : (step c s x).p n ≠ none) : s.p n ≠ none ∨ n ∈ x.2.page :: x.2.pages.map (·.1) := by
  unfold step at h
  split at h
  · exact .inl h
  · split at h
    · rcases put_some h with e | h
      · exact .inr (by rw [e]; exact List.mem_cons_self)
      · exact .inl h
    · split at h
      · exact .inl h
      · split at h
        · rcases mergeP_some h with h | h
          · exact .inl h
          · exact .inr (List.mem_cons_of_mem _ h)
        · exact .inl h
theorem from_keyT (c : Int) : ∀ (l : List En) (s : Ta) (n : Int), (from_ c s l).t n ≠ none → s.t n ≠ none ∨ n ∈ keysT l
  | [], _, _, h => .inl h
  | x :: l, s, n, h => by
    rcases from_keyT c l (step c s x) n h with h | h
    · rcases step_keyT h with h | h
      · exact .inl h
      · exact .inr (List.mem_append_left _ h)
    · exact .inr (List.mem_append_right _ h)
theorem from_keyP (c : Int) : ∀ (l : List En) (s : Ta) (n : Int), (from_ c s l).p n ≠ none → s.p n ≠ none ∨ n ∈ keysP l
  | [], _, _, h => .inl h
  | x :: l, s, n, h => by
    rcases from_keyP c l (step c s x) n h with h | h
    · rcases step_keyP h with h | h
      · exact .inl h
      · exact .inr (List.mem_append_left _ h)
    · exact .inr (List.mem_append_right _ h)
theorem run_keyT {c : Int} {l : List En} {n : Int} (h : (run c l).t n ≠ none) : n ∈ keysT l := (from_keyT c l none_ n h).elim (fun h => absurd rfl h) id
theorem run_keyP {c : Int} {l : List En} {n : Int} (h : (run c l).p n ≠ none) : n ∈ keysP l := (from_keyP c l none_ n h).elim (fun h => absurd rfl h) id
theorem once : ∀ K : List Int, ∃ K' : List Int, K'.Nodup ∧ (∀ n, n ∈ K → n ∈ K') ∧ K'.length ≤ K.length
  | [] => ⟨[], List.nodup_nil, fun _ h => h, Nat.le_refl _⟩
  | k :: K => by
    obtain ⟨K', h1, h2, h3⟩ := once K
    by_cases hk : k ∈ K'
    · refine ⟨K', h1, fun n hn => ?_, Nat.le_succ_of_le h3⟩
      rcases List.mem_cons.1 hn with rfl | hn
      · exact hk
      · exact h2 n hn
    · refine ⟨k :: K', List.nodup_cons.2 ⟨hk, h1⟩, fun n hn => ?_, Nat.succ_le_succ h3⟩
      rcases List.mem_cons.1 hn with rfl | hn
      · exact List.mem_cons_self
      · exact List.mem_cons_of_mem _ (h2 n hn)
/-- What a function of finitely many keys holds, as a list. -/
theorem fin {β : Type} (f : Int → Option β) (K : List Int) (h : ∀ n, f n ≠ none → n ∈ K) : ∃ L : List (Int × β), ((L.map (·.1)).Nodup ∧ ∀ n v, f n = some v ↔ (n, v) ∈ L) ∧ L.length ≤ K.length := by
  obtain ⟨K', h1, h2, h3⟩ := once K
  refine ⟨K'.filterMap fun n => (f n).map fun v => (n, v), ⟨?_, fun n v => ?_⟩, Nat.le_trans (List.length_filterMap_le _ _) h3⟩
  · have e : (K'.filterMap fun n => (f n).map fun v => (n, v)).map (·.1) = K'.filter fun n => (f n).isSome := by
      clear h1 h2 h3
      induction K' with
      | nil => rfl
      | cons k K ih =>
        rw [List.filterMap_cons, List.filter_cons]
        cases hf : f k with
        | none => simpa using ih
        | some v => simpa using ih
    rw [e]
    exact h1.sublist List.filter_sublist
  · rw [List.mem_filterMap]
    constructor
    · intro e
      exact ⟨n, h2 n (h n (by rw [e]; simp)), by rw [e]; rfl⟩
    · rintro ⟨k, _, e⟩
      cases hf : f k with
      | none => rw [hf] at e; cases e
      | some u =>
        rw [hf] at e
        obtain ⟨rfl, rfl⟩ := Prod.mk.inj (Option.some.inj e)
        exact hf
theorem keysT_len (m : Nat) : ∀ (l : List En), (∀ x ∈ l, x.2.txns.length ≤ m) → (keysT l).length ≤ l.length * (m + 1)
  | [], _ => Nat.zero_le _
  | x :: l, h => by
    have := keysT_len m l fun y hy => h y (List.mem_cons_of_mem _ hy)
    have hx := h x List.mem_cons_self
    have e : keysT (x :: l) = (x.2.txn :: x.2.txns.map (·.1)) ++ keysT l := rfl
    rw [e, List.length_append, List.length_cons, List.length_map, List.length_cons, Nat.succ_mul]
    omega
theorem keysP_len (m : Nat) : ∀ (l : List En), (∀ x ∈ l, x.2.pages.length ≤ m) → (keysP l).length ≤ l.length * (m + 1)
  | [], _ => Nat.zero_le _
  | x :: l, h => by
    have := keysP_len m l fun y hy => h y (List.mem_cons_of_mem _ hy)
    have hx := h x List.mem_cons_self
    have e : keysP (x :: l) = (x.2.page :: x.2.pages.map (·.1)) ++ keysP l := rfl
    rw [e, List.length_append, List.length_cons, List.length_map, List.length_cons, Nat.succ_mul]
    omega
end An
end Go.Proofs.Ytgjkhjlobfblcaa
