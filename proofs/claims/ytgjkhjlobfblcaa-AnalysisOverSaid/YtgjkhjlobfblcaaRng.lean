/- Maps that are gone through: what is still to come, as a list in some order; nothing of the program is imported. -/
import Derived.Test.YtgjkhjlobfblcaaMapB
import Derived.Maps.RangeWalk
namespace Go.Proofs.Ytgjkhjlobfblcaa
open Go.RowKit Go.MapKept
open Go.ChangeMaps (setBlock)

/-- The map at b is gone through by the iterator at r: T is what is still to come, in some order. -/
def Rng {α : Type} (w : World) (b r : Nat) (f : α → Value × Value) (T : List α) : Prop :=
  ∃ es clock since seen c0, w.heap[b]? = some (.map es clock) ∧ Stamped es clock ∧ w.heap[r]? = some (.mapIter (some b) since seen c0) ∧ (∀ x ∈ es.toList, x.born < since) ∧ since ≤ c0 ∧ since ≤ clock ∧
    ((leftOf es seen).toList.map fun e => (e.key, e.val)).Perm (T.map f)
theorem left_perm {es : Array MapEntry} {seen : Array Nat} {e : MapEntry} (hn : (es.toList.map (·.born)).Nodup) (he : e ∈ (leftOf es seen).toList) : (leftOf es seen).toList.Perm (e :: (leftOf es (seen.push e.born)).toList) := by
  have e1 : (leftOf es (seen.push e.born)).toList = (leftOf es seen).toList.filter fun x => x.born != e.born := by
    unfold leftOf
    rw [Array.toList_filter, Array.toList_filter, List.filter_filter]
    refine List.filter_congr fun x _ => ?_
    rw [contains_push]
    cases seen.contains x.born <;> simp [bne]
  rw [e1]
  have hn2 : ((leftOf es seen).toList.map (·.born)).Nodup := hn.sublist (List.Sublist.map _ (by unfold leftOf; rw [Array.toList_filter]; exact List.filter_sublist))
  clear e1 hn
  generalize (leftOf es seen).toList = L at *
  induction L with
  | nil => cases he
  | cons a L ih =>
    rw [List.map_cons] at hn2
    obtain ⟨h1, h2⟩ := List.nodup_cons.1 hn2
    rcases List.mem_cons.1 he with rfl | he
    · rw [List.filter_cons_of_neg (by simp)]
      rw [List.filter_eq_self.2 fun x hx => by
        have : x.born ≠ e.born := fun hb => h1 (hb ▸ List.mem_map.2 ⟨x, hx, rfl⟩)
        simpa using this]
    · have hne : a.born ≠ e.born := fun hb => h1 (hb ▸ List.mem_map.2 ⟨e, he, rfl⟩)
      rw [List.filter_cons_of_pos (by simpa using hne)]
      exact ((ih he h2).cons a).trans (.swap _ _ _)
namespace Rng
variable {α : Type} {P : Program} {w w' : World} {b r : Nat} {f : α → Value × Value} {T : List α}
theorem ltb (h : Rng w b r f T) : b < w.heap.size := by obtain ⟨_, _, _, _, _, hb, _⟩ := h; exact (Array.getElem?_eq_some_iff.1 hb).1
theorem ltr (h : Rng w b r f T) : r < w.heap.size := by obtain ⟨_, _, _, _, _, _, _, hr, _⟩ := h; exact (Array.getElem?_eq_some_iff.1 hr).1
theorem keep (h : Rng w b r f T) (hb : w'.heap[b]? = w.heap[b]?) (hr : w'.heap[r]? = w.heap[r]?) : Rng w' b r f T := by
  obtain ⟨es, clock, since, seen, c0, h1, h2, h3, h4⟩ := h
  exact ⟨es, clock, since, seen, c0, hb.trans h1, h2, hr.trans h3, h4⟩
theorem below (h : Rng w b r f T) (hB : Below w.heap.size w w') : Rng w' b r f T := h.keep (hB.block b h.ltb) (hB.block r h.ltr)
theorem perm {T' : List α} (h : Rng w b r f T) (hp : T.Perm T') : Rng w b r f T' := by
  obtain ⟨es, clock, since, seen, c0, h1, h2, h3, h4, h5, h6, h7⟩ := h
  exact ⟨es, clock, since, seen, c0, h1, h2, h3, h4, h5, h6, h7.trans (hp.map f)⟩
/-- 'range m'. -/
theorem start {t k e : TypeId} (ht : P.underlying t = some (.map k e)) {es : Array MapEntry} {clock : Nat} (hb : w.heap[b]? = some (.map es clock)) (hs : Stamped es clock) (hp : (es.toList.map fun e => (e.key, e.val)).Perm (T.map f)) :
    (Instr.range t (.map (some b))).run P w = .ok (.pointer (some ⟨w.heap.size, 0, none⟩)) (w.alloc (.mapIter (some b) clock #[] clock)) ∧ Rng (w.alloc (.mapIter (some b) clock #[] clock)) b w.heap.size f T := by
  have hlt := (Array.getElem?_eq_some_iff.1 hb).1
  refine ⟨run_range_map w t k e b es clock ht hb, es, clock, clock, #[], clock, ((MapKept.heap_alloc w _).2 b hlt).trans hb, hs, (MapKept.heap_alloc w _).1, ((stamped_iff es clock).1 hs).1, Nat.le_refl _, Nat.le_refl _, ?_⟩
  have : leftOf es #[] = es := by unfold leftOf; simp
  rw [this]
  exact hp
/-- The next one. -/
theorem next (h : Rng w b r f T) (ty : TypeId) :
    (T = [] ∧ (Instr.next (.pointer (some ⟨r, 0, none⟩)) false ty).run P w = .ok (.tuple #[.bool false]) w) ∨
    ∃ x T' w', T.Perm (x :: T') ∧ (Instr.next (.pointer (some ⟨r, 0, none⟩)) false ty).run P w = .ok (.tuple #[.bool true, (f x).1, (f x).2]) w' ∧ Rng w' b r f T' ∧
      w.grownBy w' (some r) ∧ w'.heap.size = w.heap.size ∧ (Instr.entry (.pointer (some ⟨r, 0, none⟩))).run P w' = .ok (.tuple #[(f x).1, (f x).2]) w' := by
  obtain ⟨es, clock, since, seen, c0, hb, hs, hr, hold, hsc, hsk, hp⟩ := h
  have hne : r ≠ b := by intro e; rw [e, hb] at hr; cases hr
  rcases run_next_at (P := P) w ty r b since c0 seen es clock hr hb hold hsc with ⟨h0, hrun⟩ | ⟨e, he, w1, hal, hrun⟩
  · refine .inl ⟨?_, hrun⟩
    have e0 : (leftOf es seen).toList = [] := List.eq_nil_of_length_eq_zero (by simpa using h0)
    rw [e0] at hp
    simpa using hp.symm.eq_nil
  · have hn := ((stamped_iff es clock).1 hs).2.1
    obtain ⟨hem, hes⟩ := mem_left he
    have hpe := left_perm hn he
    have hm : (e.key, e.val) ∈ T.map f := hp.subset (List.mem_map.2 ⟨e, he, rfl⟩)
    obtain ⟨x, hx, hfx⟩ := List.mem_map.1 hm
    obtain ⟨s, t, rfl⟩ := List.append_of_mem hx
    have hr1 : w1.heap[r]? = some (.mapIter (some b) since seen c0) := by rcases hal with rfl | rfl <;> exact hr
    have hb1 : w1.heap[b]? = some (.map es clock) := by rcases hal with rfl | rfl <;> exact hb
    have hset := heap_set (o' := .mapIter (some b) since (seen.push e.born) clock) hr1
    have hb' : (setBlock w1 r (.mapIter (some b) since (seen.push e.born) clock)).heap[b]? = some (.map es clock) := (hset.2 b (fun e1 => hne e1.symm)).trans hb1
    refine .inr ⟨x, s ++ t, _, List.perm_middle, by rw [hrun, hfx], ⟨es, clock, since, seen.push e.born, clock, hb', hs, hset.1, hold, hsk, hsk, ?_⟩, ?_, ?_, ?_⟩
    · have h1 : ((e.key, e.val) :: (leftOf es (seen.push e.born)).toList.map fun e => (e.key, e.val)).Perm ((e.key, e.val) :: (s ++ t).map f) := by
        have h2 := (hpe.map fun e => (e.key, e.val)).symm.trans (hp.trans ((List.perm_middle (a := x) (l₁ := s) (l₂ := t)).map f))
        rw [List.map_cons, List.map_cons, hfx] at h2
        exact h2
      exact h1.cons_inv
    · rcases hal with rfl | rfl <;> exact ⟨rfl, rfl, rfl, by simp [setBlock], fun i _ hi => hset.2 i (fun e1 => hi (by rw [e1]))⟩
    · rcases hal with rfl | rfl <;> simp [setBlock]
    · rw [hfx]
      exact run_entry_at _ r b since seen es clock e hset.1 hb' hem hn
/-- A row of one's own is neither the map nor the iterator. -/
theorem own {base size n : Nat} {e : TypeId} {v : Value} {xs : List Value} (h : Rng w b r f T) (ho : w.ownsRow base e size v n xs) : v.ownBlock ≠ some b ∧ v.ownBlock ≠ some r := by
  obtain ⟨es, clock, since, seen, c0, hb, _, hr, _⟩ := h
  obtain ⟨_, ⟨rfl, _⟩ | ⟨g', cap, cur, rfl, _, hg, _⟩⟩ := ho
  · exact ⟨by simp [Value.ownBlock], by simp [Value.ownBlock]⟩
  · refine ⟨fun hv => ?_, fun hv => ?_⟩ <;> simp only [Value.ownBlock, Option.some.injEq] at hv <;> subst hv
    · rw [hg] at hb; cases hb
    · rw [hg] at hr; cases hr
/-- How many are still to come. -/
theorem left_eq (h : Rng w b r f T) : w.rangeLeft b r = T.length := by
  obtain ⟨es, clock, since, seen, c0, hb, _, hr, _, _, _, hp⟩ := h
  simp only [World.rangeLeft, hb, hr]
  have := hp.length_eq
  simpa using this
end Rng
/-- What a map holds, as a list of its own. -/
theorem BMap.list {α : Type} {w : World} {b : Nat} {g : Int → Option Value} (h : BMap w b g) {T : List α} (key : α → Int) (val : α → Value) (hn : (T.map key).Nodup) (h1 : ∀ x ∈ T, g (key x) = some (val x)) (h2 : ∀ i v, g i = some v → ∃ x ∈ T, key x = i) :
    ∃ es clock, w.heap[b]? = some (.map es clock) ∧ Stamped es clock ∧ (es.toList.map fun e => (e.key, e.val)).Perm (T.map fun x => (Value.int .i64 (key x), val x)) := by
  obtain ⟨es, clock, hb, he, hf, hs⟩ := h
  refine ⟨es, clock, hb, hs, ?_⟩
  have hnd1 : (es.toList.map fun e => (e.key, e.val)).Nodup := by
    rw [List.nodup_iff_pairwise_ne, List.pairwise_map]
    exact he.apart.imp fun hab heq => hab (congrArg Prod.fst heq)
  have hnd2 : (T.map fun x => (Value.int .i64 (key x), val x)).Nodup := by
    rw [List.nodup_iff_pairwise_ne, List.pairwise_map] at hn ⊢
    exact hn.imp fun hab heq => hab (by have := congrArg Prod.fst heq; simpa using this)
  refine (List.perm_ext_iff_of_nodup hnd1 hnd2).2 fun p => ?_
  constructor
  · intro hp
    obtain ⟨e, hem, rfl⟩ := List.mem_map.1 hp
    obtain ⟨i, hi⟩ := he.keys e hem
    obtain ⟨j, hj, e1⟩ := List.getElem_of_mem hem
    have hv := findAt_some he i (j := j) (e := e) (by rw [List.getElem?_eq_getElem hj, e1]) hi
    rw [hf i] at hv
    obtain ⟨x, hx, hxi⟩ := h2 i _ hv
    have := h1 x hx
    rw [hxi, hv] at this
    have hvx := Option.some.inj this
    exact List.mem_map.2 ⟨x, hx, by rw [hi, hxi, hvx]⟩
  · intro hp
    obtain ⟨x, hx, rfl⟩ := List.mem_map.1 hp
    have hv := h1 x hx
    rw [← hf (key x)] at hv
    obtain ⟨e, hem, hk⟩ := (findAt_iff he (key x)).1 (by rw [hv]; rfl)
    obtain ⟨j, hj, e1⟩ := List.getElem_of_mem hem
    have hv2 := findAt_some he (key x) (j := j) (e := e) (by rw [List.getElem?_eq_getElem hj, e1]) hk
    rw [hv] at hv2
    have hvx := Option.some.inj hv2
    exact List.mem_map.2 ⟨e, hem, by rw [hk, hvx]⟩
end Go.Proofs.Ytgjkhjlobfblcaa
