/- Package lock beside careenref09: when both say the same; both side by side. -/
import Derived.Test.YtkeonffkaopclaaLkK
import Derived.Test.YtkeonffkaopclaaLkO
namespace Go.Proofs.Ytkeonffkaopclaa
open Go.RowKit

/-- The rows say what the table does. -/
structure Agree (S : Lk) (l : List R9) : Prop where
  row : ∀ r ∈ l, 0 ≤ r.p ∧ r.p < 8 ∧ r.t ∈ (S r.p.toNat).who ∧ r.m = if (S r.p.toNat).alone = true then 2 else 1
  all : ∀ (t : Int) (k : Nat), k < 8 → t ∈ (S k).who → ∃ r ∈ l, r.t = t ∧ r.p = k
  uniq : l.Pairwise fun a b => ¬ (a.t = b.t ∧ a.p = b.p)
theorem Agree.empty : Agree Lk.empty [] := ⟨fun r hr => by simp at hr, fun t k _ h => by simp [Lk.empty] at h, List.Pairwise.nil⟩
theorem modeR_none {t p : Int} : ∀ {l : List R9}, (∀ r ∈ l, ¬ (r.t = t ∧ r.p = p)) → modeR l t p = 0
  | [], _ => rfl
  | r :: l, h => by
    show (if r.t = t ∧ r.p = p then r.m else modeR l t p) = 0
    rw [if_neg (h r (by simp))]
    exact modeR_none fun x hx => h x (.tail _ hx)
theorem modeR_mem {t p : Int} : ∀ {l : List R9} {r : R9}, l.Pairwise (fun a b => ¬ (a.t = b.t ∧ a.p = b.p)) → r ∈ l → r.t = t ∧ r.p = p → modeR l t p = r.m
  | x :: l, r, hu, hr, he => by
    show (if x.t = t ∧ x.p = p then x.m else modeR l t p) = r.m
    obtain ⟨h1, h2⟩ := List.pairwise_cons.1 hu
    rcases List.mem_cons.1 hr with rfl | hr
    · rw [if_pos he]
    · rw [if_neg (fun e => h1 r hr ⟨by rw [e.1, he.1], by rw [e.2, he.2]⟩)]
      exact modeR_mem h2 hr he
theorem Agree.mode {S : Lk} {l : List R9} (h : Agree S l) (t p : Int) : modeR l t p = S.mode t p := by
  unfold Lk.mode
  by_cases hc : 0 ≤ p ∧ p < 8 ∧ t ∈ (S p.toNat).who
  · rw [if_pos hc]
    obtain ⟨r, hr, e1, e2⟩ := h.all t p.toNat (by omega) hc.2.2
    have e2' : r.p = p := by omega
    rw [modeR_mem h.uniq hr ⟨e1, e2'⟩, (h.row r hr).2.2.2, e2']
  · rw [if_neg hc]
    refine modeR_none fun r hr e => hc ?_
    obtain ⟨a, b, c, _⟩ := h.row r hr
    rw [e.2] at a b c
    rw [e.1] at c
    exact ⟨a, b, c⟩
theorem Agree.may {S : Lk} {l : List R9} (h : Agree S l) (t p m : Int) : mayR l t p m = S.may t p m := by
  unfold mayR Lk.may
  by_cases hc : Call9 t p m
  · rw [if_pos hc, if_pos hc]
    have key : (l.any fun r => r.bars t p m) = true ↔ ((S p.toNat).others t = true ∧ ((S p.toNat).alone = true ∨ m = 2)) := by
      rw [List.any_eq_true, others_true]
      constructor
      · rintro ⟨r, hr, hb⟩
        unfold R9.bars at hb
        simp only [Bool.and_eq_true, Bool.or_eq_true, bne_iff_ne, beq_iff_eq, ne_eq] at hb
        obtain ⟨b1, b2, b3⟩ := hb
        obtain ⟨_, _, hw, hm⟩ := h.row r hr
        rw [b2] at hw hm
        refine ⟨⟨r.t, hw, b1⟩, ?_⟩
        rcases b3 with b3 | b3
        · left
          rw [b3] at hm
          by_cases ha : (S p.toNat).alone = true
          · exact ha
          · rw [if_neg ha] at hm; omega
        · exact .inr b3
      · rintro ⟨⟨y, hy, hne⟩, hor⟩
        obtain ⟨r, hr, e1, e2⟩ := h.all y p.toNat (by have := hc.2.2.1; have := hc.2.2.2.1; omega) hy
        have e2' : r.p = p := by have := hc.2.2.1; omega
        refine ⟨r, hr, ?_⟩
        unfold R9.bars
        simp only [Bool.and_eq_true, Bool.or_eq_true, bne_iff_ne, beq_iff_eq, ne_eq]
        refine ⟨by rw [e1]; exact hne, e2', ?_⟩
        rcases hor with ha | ha
        · left
          rw [(h.row r hr).2.2.2, e2', if_pos ha]
        · exact .inr ha
    by_cases hk : (S p.toNat).others t = true ∧ ((S p.toNat).alone = true ∨ m = 2)
    · rw [if_pos hk, if_pos (key.2 hk)]
    · rw [if_neg hk, if_neg (fun e => hk (key.1 e))]
  · rw [if_neg hc, if_neg hc]
theorem mem_setR {t p m : Int} (hm : 0 < m) : ∀ {l : List R9} {r : R9}, l.Pairwise (fun a b => ¬ (a.t = b.t ∧ a.p = b.p)) → (r ∈ setR l t p m ↔ (r ∈ l ∧ ¬ (r.t = t ∧ r.p = p)) ∨ r = ⟨t, p, maxI (modeR l t p) m⟩)
  | [], r, _ => by
    have e : maxI (modeR [] t p) m = m := if_pos hm
    rw [e]
    show r ∈ [_] ↔ _
    simp
  | x :: l, r, hu => by
    obtain ⟨h1, h2⟩ := List.pairwise_cons.1 hu
    by_cases hx : x.t = t ∧ x.p = p
    · have e1 : setR (x :: l) t p m = ⟨x.t, x.p, maxI x.m m⟩ :: l := if_pos hx
      have e2 : modeR (x :: l) t p = x.m := if_pos hx
      rw [e1, e2, List.mem_cons, List.mem_cons]
      constructor
      · rintro (rfl | hr)
        · right; rw [hx.1, hx.2]
        · exact .inl ⟨.inr hr, fun e => h1 r hr ⟨by rw [hx.1, e.1], by rw [hx.2, e.2]⟩⟩
      · rintro (⟨rfl | hr, hn⟩ | rfl)
        · exact absurd hx hn
        · exact .inr hr
        · left; rw [hx.1, hx.2]
    · have e1 : setR (x :: l) t p m = x :: setR l t p m := if_neg hx
      have e2 : modeR (x :: l) t p = modeR l t p := if_neg hx
      rw [e1, e2, List.mem_cons, List.mem_cons, mem_setR hm h2]
      constructor
      · rintro (rfl | ⟨hr, hn⟩ | rfl)
        · exact .inl ⟨.inl rfl, hx⟩
        · exact .inl ⟨.inr hr, hn⟩
        · exact .inr rfl
      · rintro (⟨rfl | hr, hn⟩ | rfl)
        · exact .inl rfl
        · exact .inr (.inl ⟨hr, hn⟩)
        · exact .inr (.inr rfl)
theorem uniq_setR {t p m : Int} (hm : 0 < m) : ∀ {l : List R9}, l.Pairwise (fun a b => ¬ (a.t = b.t ∧ a.p = b.p)) → (setR l t p m).Pairwise fun a b => ¬ (a.t = b.t ∧ a.p = b.p)
  | [], _ => List.pairwise_singleton _ _
  | x :: l, hu => by
    obtain ⟨h1, h2⟩ := List.pairwise_cons.1 hu
    by_cases hx : x.t = t ∧ x.p = p
    · have e1 : setR (x :: l) t p m = ⟨x.t, x.p, maxI x.m m⟩ :: l := if_pos hx
      rw [e1]
      exact List.pairwise_cons.2 ⟨fun y hy => h1 y hy, h2⟩
    · have e1 : setR (x :: l) t p m = x :: setR l t p m := if_neg hx
      rw [e1]
      refine List.pairwise_cons.2 ⟨fun y hy => ?_, uniq_setR hm h2⟩
      rcases (mem_setR hm h2).1 hy with ⟨hy, _⟩ | rfl
      · exact h1 y hy
      · exact hx
theorem Agree.take {S : Lk} {l : List R9} (ho : S.Ok) (h : Agree S l) (t p m : Int) : Agree (S.take t p m) (takeR l t p m) := by
  unfold takeR
  by_cases h0 : S.may t p m = 0
  · rw [h.may, if_pos h0]
    have hmd := take_mode ho h0
    have hc : Call9 t p m := Classical.byContradiction fun hc => by
      unfold Lk.may at h0
      rw [if_neg hc] at h0
      cases h0
    have hno : ¬ ((S p.toNat).others t = true ∧ ((S p.toNat).alone = true ∨ m = 2)) := fun e => by
      unfold Lk.may at h0
      rw [if_pos hc, if_pos e] at h0; cases h0
    have hm : 0 < m := by rcases hc.2.2.2.2 with rfl | rfl <;> omega
    obtain ⟨_, _, p1, p2, _⟩ := hc
    have hT : S.take t p m = S.give t p.toNat m := by unfold Lk.take; rw [if_pos h0]
    have hp : (S.take t p m) p.toNat = ⟨if t ∈ (S p.toNat).who then (S p.toNat).who else (S p.toNat).who ++ [t], (S p.toNat).alone || decide (m = 2)⟩ := by rw [hT]; exact if_pos rfl
    have hq : ∀ k, k ≠ p.toNat → (S.take t p m) k = S k := fun k hk => by rw [hT]; exact if_neg hk
    have hin : t ∈ ((S.take t p m) p.toNat).who := by
      rw [hp]
      by_cases ht : t ∈ (S p.toNat).who
      · simp only [if_pos ht]; exact ht
      · simp only [if_neg ht]; simp
    have hsub : ∀ x, x ∈ (S p.toNat).who → x ∈ ((S.take t p m) p.toNat).who := fun x hx => by
      rw [hp]
      by_cases ht : t ∈ (S p.toNat).who
      · simp only [if_pos ht]; exact hx
      · simp only [if_neg ht]; simp [hx]
    refine ⟨fun r hr => ?_, fun x k hk hx => ?_, uniq_setR hm h.uniq⟩
    · rcases (mem_setR hm h.uniq).1 hr with ⟨hr, hn⟩ | rfl
      · obtain ⟨a, b, c, d⟩ := h.row r hr
        by_cases hrp : r.p = p
        · rw [hrp] at c d ⊢
          have hne : r.t ≠ t := fun e => hn ⟨e, hrp⟩
          have hoth : (S p.toNat).others t = true := (others_true _ _).2 ⟨_, c, hne⟩
          have hal : ¬ (S p.toNat).alone = true := fun e => hno ⟨hoth, .inl e⟩
          have hm2 : ¬ m = 2 := fun e => hno ⟨hoth, .inr e⟩
          refine ⟨p1, p2, hsub _ c, ?_⟩
          rw [d, hp]
          simp [hal, hm2]
        · have hk : r.p.toNat ≠ p.toNat := by omega
          rw [hq _ hk]
          exact ⟨a, b, c, d⟩
      · refine ⟨p1, p2, hin, ?_⟩
        rw [h.mode]
        have e1 := mode_in (S := S.take t p m) (t := t) p1 p2
        rw [if_pos hin, hmd] at e1
        exact e1
    · by_cases hkp : k = p.toNat
      · subst hkp
        by_cases hxt : x = t
        · subst hxt
          exact ⟨_, (mem_setR hm h.uniq).2 (.inr rfl), rfl, by show p = _; omega⟩
        · have hxw : x ∈ (S p.toNat).who := by
            rw [hp] at hx
            by_cases ht : t ∈ (S p.toNat).who
            · simp only [if_pos ht] at hx; exact hx
            · simp only [if_neg ht] at hx
              rcases List.mem_append.1 hx with hx | hx
              · exact hx
              · simp at hx; exact absurd hx hxt
          obtain ⟨r, hr, e1, e2⟩ := h.all x _ hk hxw
          exact ⟨r, (mem_setR hm h.uniq).2 (.inl ⟨hr, fun e => hxt (e1 ▸ e.1)⟩), e1, e2⟩
      · rw [hq k hkp] at hx
        obtain ⟨r, hr, e1, e2⟩ := h.all x k hk hx
        exact ⟨r, (mem_setR hm h.uniq).2 (.inl ⟨hr, fun e => hkp (by have := e.2; omega)⟩), e1, e2⟩
  · rw [h.may, if_neg h0]
    have hT : S.take t p m = S := by unfold Lk.take; rw [if_neg h0]
    rw [hT]
    exact h
theorem Agree.free {S : Lk} {l : List R9} (ho : S.Ok) (h : Agree S l) (t : Int) : Agree (S.free t) (freeR l t) := by
  refine ⟨fun r hr => ?_, fun x k hk hx => ?_, h.uniq.sublist List.filter_sublist⟩
  · obtain ⟨hr, hne⟩ := List.mem_filter.1 hr
    have hne' : r.t ≠ t := by simpa using hne
    obtain ⟨a, b, c, d⟩ := h.row r hr
    refine ⟨a, b, ?_⟩
    unfold Lk.free
    by_cases hc : r.p.toNat < 8 ∧ t ∈ (S r.p.toNat).who
    · rw [if_pos hc]
      have hal : ¬ (S r.p.toNat).alone = true := fun e => by
        have h1 := ho.one _ e
        match hw : (S r.p.toNat).who, h1 with
        | [y], _ =>
          have e1 := hc.2
          rw [hw] at e1 c
          simp at e1 c
          exact hne' (by rw [c, e1])
      rw [if_neg hal] at d
      exact ⟨(List.Nodup.mem_erase_iff (ho.nodup _)).2 ⟨hne', c⟩, by rw [d]; rfl⟩
    · rw [if_neg hc]; exact ⟨c, d⟩
  · unfold Lk.free at hx
    by_cases hc : k < 8 ∧ t ∈ (S k).who
    · rw [if_pos hc] at hx
      obtain ⟨hne, hx⟩ := (List.Nodup.mem_erase_iff (ho.nodup _)).1 hx
      obtain ⟨r, hr, e1, e2⟩ := h.all x k hk hx
      exact ⟨r, List.mem_filter.2 ⟨hr, by simpa [e1] using hne⟩, e1, e2⟩
    · rw [if_neg hc] at hx
      obtain ⟨r, hr, e1, e2⟩ := h.all x k hk hx
      exact ⟨r, List.mem_filter.2 ⟨hr, by
        have : r.t ≠ t := fun e => hc ⟨hk, by rw [← e, e1]; exact hx⟩
        simpa using this⟩, e1, e2⟩
theorem nodup_len : ∀ {a b : List Nat}, a.Nodup → b.Nodup → (∀ x, x ∈ a ↔ x ∈ b) → a.length = b.length
  | [], b, _, _, h => by
    cases b with
    | nil => rfl
    | cons y b => exact absurd ((h y).2 (by simp)) (by simp)
  | x :: a, b, ha, hb, h => by
    obtain ⟨h1, h2⟩ := List.nodup_cons.1 ha
    have hx : x ∈ b := (h x).1 (by simp)
    have := nodup_len (a := a) (b := b.erase x) h2 (hb.erase x) fun y => by
      rw [List.Nodup.mem_erase_iff hb]
      constructor
      · intro hy
        exact ⟨fun e => h1 (e ▸ hy), (h y).1 (.tail _ hy)⟩
      · rintro ⟨hne, hy⟩
        rcases List.mem_cons.1 ((h y).2 hy) with e | hy
        · exact absurd e hne
        · exact hy
    rw [List.length_cons, this, List.length_erase_of_mem hx]
    have := List.length_pos_of_mem hx
    omega
theorem split_len (l : List R9) (t : Int) : l.length = (freeR l t).length + (l.filter fun r => r.t == t).length := by
  induction l with
  | nil => rfl
  | cons r l ih =>
    unfold freeR at ih ⊢
    by_cases h : r.t = t
    · simp [h] at ih ⊢; omega
    · simp [h] at ih ⊢; omega
theorem Agree.count {S : Lk} {l : List R9} (h : Agree S l) (t : Int) : (l.length : Int) - (freeR l t).length = ((S.pages t).length : Nat) := by
  have h1 := split_len l t
  have h2 : ((l.filter fun r => r.t == t).map fun r => r.p.toNat).length = (S.pages t).length := by
    refine nodup_len ?_ (nodup_pages S t) fun k => ?_
    · refine List.pairwise_map.2 (List.Pairwise.imp_of_mem (R := fun a b => ¬ (a.t = b.t ∧ a.p = b.p)) ?_ (h.uniq.sublist List.filter_sublist))
      intro a b ha hb hab e
      obtain ⟨ha, e1⟩ := List.mem_filter.1 ha
      obtain ⟨hb, e2⟩ := List.mem_filter.1 hb
      have := h.row a ha
      have := h.row b hb
      simp at e1 e2
      exact hab ⟨by rw [e1, e2], by omega⟩
    · rw [mem_pages, List.mem_map]
      constructor
      · rintro ⟨r, hr, rfl⟩
        obtain ⟨hr, e1⟩ := List.mem_filter.1 hr
        simp at e1
        obtain ⟨a, b, c, _⟩ := h.row r hr
        exact ⟨by omega, e1 ▸ c⟩
      · rintro ⟨hk, ht⟩
        obtain ⟨r, hr, e1, e2⟩ := h.all t k hk ht
        exact ⟨r, List.mem_filter.2 ⟨hr, by simpa using e1⟩, by omega⟩
  rw [List.length_map] at h2
  omega
theorem setR_len (l : List R9) (t p m : Int) : (setR l t p m).length ≤ l.length + 1 := by
  induction l with
  | nil => exact Nat.le_refl _
  | cons r l ih =>
    show (if r.t = t ∧ r.p = p then _ else _ : List R9).length ≤ _
    by_cases h : r.t = t ∧ r.p = p
    · rw [if_pos h]; simp
    · rw [if_neg h]; simp; omega
theorem takeR_len (l : List R9) (t p m : Int) : (takeR l t p m).length ≤ l.length + 1 := by
  unfold takeR
  by_cases h : mayR l t p m = 0
  · rw [if_pos h]; exact setR_len l t p m
  · rw [if_neg h]; omega
/-- Both, and an operation beside them. -/
structure BoxK (w0 w : World) (F : Foot) (q : Nat) (S : Lk) (G : Foot) (g : Nat) (l : List R9) (x : Nat) (o : Op9) : Prop where
  live : LiveK w0 w F q S
  rows : IsR9 w G g l
  far : ∀ b, F b → ¬ G b
  newG : ∀ b, G b → w0.heap.size ≤ b
  box : Blk w x 31 (op9Cells o)
  xF : ¬ F x
  xG : ¬ G x
namespace BoxK
variable {w0 w w' : World} {F F' G G' : Foot} {q g x : Nat} {S S' : Lk} {l l' : List R9} {o : Op9}
theorem more (h : BoxK w0 w F q S G g l x o) (hb : Below w.heap.size w w') : BoxK w0 w' F q S G g l x o := ⟨h.live.more hb, h.rows.below hb, h.far, h.newG, h.box.keep hb h.box.lt, h.xF, h.xG⟩
theorem stepF (h : BoxK w0 w F q S G g l x o) (hl : IsLock w' F' q S') (hs : Step F F' w w') : BoxK w0 w' F' q S' G g l x o := by
  obtain ⟨h1, h2⟩ := h.rows.apart hs (fun b hb hF => h.far b hF hb)
  exact ⟨h.live.step hl hs, h1, fun b hF hG => h2 b hG hF, h.newG, (hs.block x h.box.lt h.xF).trans h.box, fun hF => (hs.foot x hF).elim h.xF (fun k => by have := h.box.lt; omega), h.xG⟩
theorem stepG (h : BoxK w0 w F q S G g l x o) (hl : IsR9 w' G' g l') (hs : Step G G' w w') : BoxK w0 w' F q S G' g l' x o := by
  obtain ⟨h1, h2⟩ := h.live.lock.apart hs h.far
  exact ⟨⟨h1, h.live.newF, hs.belowB h.newG h.live.below h.live.below.size⟩, hl, h2, fun b hb => (hs.foot b hb).elim (h.newG b) fun k => Nat.le_trans h.live.below.size k, (hs.block x h.box.lt h.xG).trans h.box, h.xF, fun hG => (hs.foot x hG).elim h.xG (fun k => by have := h.box.lt; omega)⟩
theorem take1 (h : BoxK w0 w F q S G g l x o) (t p m : Int) : Calls Try.prog 10 #[.pointer (some ⟨q, 0, none⟩), .int .i64 t, .int .i64 p, .int .i64 m] w fun e w' => e = .returned (.int .i64 (S.may t p m)) ∧ ∃ F', BoxK w0 w' F' q (S.take t p m) G g l x o := by
  refine (lkTake_any h.live.lock t p m).mono ?_
  rintro e w1 ⟨F1, rfl, hl, hs⟩
  exact ⟨rfl, F1, h.stepF hl hs⟩
theorem take2 (h : BoxK w0 w F q S G g l x o) (hl : l.length ≤ 1000) (t p m : Int) (n : Nat) (hn : mayR l t p m = n) : Calls Try.prog 11 #[.pointer (some ⟨g, 0, none⟩), .int .i64 t, .int .i64 p, .int .i64 m] w fun e w' => e = .returned (.int .i64 n) ∧ ∃ G', BoxK w0 w' F q S G' g (takeR l t p m) x o := by
  refine (refTake_any h.rows t p m hl).mono ?_
  rintro e w1 ⟨G1, rfl, hr, hs⟩
  exact ⟨by rw [hn], G1, h.stepG hr hs⟩
theorem free1 (h : BoxK w0 w F q S G g l x o) (t : Int) : Calls Try.prog 12 #[.pointer (some ⟨q, 0, none⟩), .int .i64 t] w fun e w' => e = .returned (.int .i64 (S.pages t).length) ∧ ∃ F', BoxK w0 w' F' q (S.free t) G g l x o := by
  refine (lkFree_any h.live.lock t).mono ?_
  rintro e w1 ⟨F1, rfl, hl, hs⟩
  exact ⟨rfl, F1, h.stepF hl hs⟩
theorem free2 (h : BoxK w0 w F q S G g l x o) (hl : l.length ≤ 1000) (t n : Int) (hn : (l.length : Int) - (freeR l t).length = n) : Calls Try.prog 13 #[.pointer (some ⟨g, 0, none⟩), .int .i64 t] w fun e w' => e = .returned (.int .i64 n) ∧ ∃ G', BoxK w0 w' F q S G' g (freeR l t) x o := by
  refine (refFree_any h.rows t hl).mono ?_
  rintro e w1 ⟨G1, rfl, hr, hs⟩
  exact ⟨by rw [hn], G1, h.stepG hr hs⟩
theorem may1 (h : BoxK w0 w F q S G g l x o) (t p m : Int) : Calls Try.prog 14 #[.pointer (some ⟨q, 0, none⟩), .int .i64 t, .int .i64 p, .int .i64 m] w fun e w' => e = .returned (.int .i64 (S.may t p m)) ∧ BoxK w0 w' F q S G g l x o := by
  refine (lkMay_any h.live.lock t p m).mono ?_
  rintro e w1 ⟨rfl, hb⟩
  exact ⟨rfl, h.more hb⟩
theorem may2 (h : BoxK w0 w F q S G g l x o) (t p m : Int) (n : Nat) (hn : mayR l t p m = n) : Calls Try.prog 15 #[.pointer (some ⟨g, 0, none⟩), .int .i64 t, .int .i64 p, .int .i64 m] w fun e w' => e = .returned (.int .i64 n) ∧ BoxK w0 w' F q S G g l x o := by
  refine (refMay_any h.rows t p m).mono ?_
  rintro e w1 ⟨rfl, hb⟩
  exact ⟨by rw [hn], h.more hb⟩
theorem mode1 (h : BoxK w0 w F q S G g l x o) (t p : Int) : Calls Try.prog 17 #[.pointer (some ⟨q, 0, none⟩), .int .i64 t, .int .i64 p] w fun e w' => e = .returned (.int .i64 (S.mode t p)) ∧ BoxK w0 w' F q S G g l x o ∧ Below w.heap.size w w' := by
  refine (lkMode_any h.live.lock t p).mono ?_
  rintro e w1 ⟨rfl, hb⟩
  exact ⟨rfl, h.more hb, hb⟩
theorem mode2 (h : BoxK w0 w F q S G g l x o) (t p n : Int) (hn : modeR l t p = n) : Calls Try.prog 18 #[.pointer (some ⟨g, 0, none⟩), .int .i64 t, .int .i64 p] w fun e w' => e = .returned (.int .i64 n) ∧ w = w' := by
  refine (refMode_any h.rows t p).mono ?_
  rintro e w1 ⟨rfl, rfl⟩
  exact ⟨by rw [hn], rfl⟩
/-- The copy goes on in its place. -/
theorem swap (h : BoxK w0 w F q S G g l x o) {c : Nat} {F' : Foot} (hc : LiveK w0 w F' c S) (hn : ∀ b, F' b → ¬ G b) (hx : ¬ F' x) : BoxK w0 w F' c S G g l x o := ⟨hc, h.rows, hn, h.newG, h.box, hx, h.xG⟩
end BoxK
end Go.Proofs.Ytkeonffkaopclaa
