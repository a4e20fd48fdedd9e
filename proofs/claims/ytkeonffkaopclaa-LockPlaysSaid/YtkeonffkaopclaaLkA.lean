/- Package lock: what a table of locks is, as plain data and in memory; the small calls. -/
import Derived.Test.YtkeonffkaopclaaRows
import Derived.Test.YtkeonffkaopclaaFoot
namespace Go.Proofs.Ytkeonffkaopclaa
open Go.RowKit Go.MapKept

/-- Who has a page; does one have it alone? -/
structure Pg9 where
  who : List Int
  alone : Bool
abbrev Lk := Nat → Pg9
namespace Lk
def empty : Lk := fun _ => ⟨[], false⟩
def set (S : Lk) (p : Nat) (x : Pg9) : Lk := fun i => if i = p then x else S i
structure Ok (S : Lk) : Prop where
  nodup : ∀ i, (S i).who.Nodup
  txn : ∀ i, ∀ t ∈ (S i).who, 1 ≤ t ∧ t ≤ 2147483647
  one : ∀ i, (S i).alone = true → (S i).who.length = 1
theorem ok_empty : Ok empty := ⟨fun _ => List.nodup_nil, fun _ t ht => by simp [empty] at ht, fun _ h => by simp [empty] at h⟩
end Lk
/-- Has anybody else it? -/
def Pg9.others (x : Pg9) (t : Int) : Bool := x.who.any fun y => decide (y ≠ t)
/-- May there be such a call? -/
def Call9 (t p m : Int) : Prop := 1 ≤ t ∧ t ≤ 2147483647 ∧ 0 ≤ p ∧ p < 8 ∧ (m = 1 ∨ m = 2)
instance (t p m : Int) : Decidable (Call9 t p m) := by unfold Call9; infer_instance
namespace Lk
variable (S : Lk)
def may (t p m : Int) : Nat := if Call9 t p m then (if (S p.toNat).others t = true ∧ ((S p.toNat).alone = true ∨ m = 2) then 6 else 0) else 1
def give (t : Int) (p : Nat) (m : Int) : Lk := S.set p ⟨if t ∈ (S p).who then (S p).who else (S p).who ++ [t], (S p).alone || decide (m = 2)⟩
def take (t p m : Int) : Lk := if S.may t p m = 0 then S.give t p.toNat m else S
def free (t : Int) : Lk := fun i => if i < 8 ∧ t ∈ (S i).who then ⟨(S i).who.erase t, false⟩ else S i
def mode (t p : Int) : Int := if 0 ≤ p ∧ p < 8 ∧ t ∈ (S p.toNat).who then (if (S p.toNat).alone then 2 else 1) else 0
def pages (t : Int) : List Nat := (List.range 8).filter fun i => decide (t ∈ (S i).who)
end Lk
theorem others_true (x : Pg9) (t : Int) : x.others t = true ↔ ∃ y ∈ x.who, y ≠ t := by
  unfold Pg9.others
  simp [List.any_eq_true]
/-- Others are there just if there are more than it. -/
theorem others_count {x : Pg9} (h : x.who.Nodup) (t : Int) : x.others t = decide ((0 : Int) < (x.who.length : Int) - (if t ∈ x.who then 1 else 0)) := by
  have key : (∃ y ∈ x.who, y ≠ t) ↔ (0 : Int) < (x.who.length : Int) - (if t ∈ x.who then 1 else 0) := by
    by_cases ht : t ∈ x.who
    · rw [if_pos ht]
      have hl : (x.who.erase t).length = x.who.length - 1 := List.length_erase_of_mem ht
      have hp := List.length_pos_of_mem ht
      constructor
      · rintro ⟨y, hy, hne⟩
        have := List.length_pos_of_mem ((List.Nodup.mem_erase_iff h).2 ⟨hne, hy⟩)
        omega
      · intro hlt
        obtain ⟨y, hy⟩ := List.exists_mem_of_length_pos (l := x.who.erase t) (by omega)
        have := (List.Nodup.mem_erase_iff h).1 hy
        exact ⟨y, this.2, this.1⟩
    · rw [if_neg ht]
      constructor
      · rintro ⟨y, hy, _⟩
        have := List.length_pos_of_mem hy
        omega
      · intro hlt
        obtain ⟨y, hy⟩ := List.exists_mem_of_length_pos (l := x.who) (by omega)
        exact ⟨y, hy, fun e => ht (e ▸ hy)⟩
  cases ho : x.others t with
  | true => exact (decide_eq_true (key.1 ((others_true x t).1 ho))).symm
  | false => exact (decide_eq_false fun hh => by rw [(others_true x t).2 (key.2 hh)] at ho; cases ho).symm
/-- Whole numbers of a range, none twice, are as many as it has at most. -/
theorem few_to : ∀ (n : Nat) (l : List Int), l.Nodup → (∀ x ∈ l, 1 ≤ x ∧ x ≤ n) → l.length ≤ n
  | 0, [], _, _ => Nat.le_refl _
  | 0, x :: l, _, h => by have := h x (by simp); omega
  | n + 1, l, hn, h => by
    by_cases hx : ((n + 1 : Nat) : Int) ∈ l
    · have h1 := few_to n (l.erase ((n + 1 : Nat) : Int)) (hn.erase _) fun x hx' => by
        have h2 := (List.Nodup.mem_erase_iff hn).1 hx'
        have h3 := h x h2.2
        have h4 := h2.1
        omega
      rw [List.length_erase_of_mem hx] at h1
      omega
    · have h1 := few_to n l hn fun x hx' => by
        have h3 := h x hx'
        have h4 : x ≠ ((n + 1 : Nat) : Int) := fun e => hx (e ▸ hx')
        omega
      omega
theorem Lk.Ok.few {S : Lk} (h : S.Ok) (i : Nat) : (S i).who.length ≤ 2147483647 := few_to 2147483647 _ (h.nodup i) fun x hx => h.txn i x hx
theorem Lk.Ok.take {S : Lk} (h : S.Ok) (t p m : Int) : (S.take t p m).Ok := by
  unfold Lk.take
  by_cases h0 : S.may t p m = 0
  · rw [if_pos h0]
    unfold Lk.may at h0
    by_cases hc : Call9 t p m
    · rw [if_pos hc] at h0
      have hno : ¬ ((S p.toNat).others t = true ∧ ((S p.toNat).alone = true ∨ m = 2)) := fun e => by rw [if_pos e] at h0; cases h0
      refine ⟨fun i => ?_, fun i y hy => ?_, fun i hi => ?_⟩
      · unfold Lk.give Lk.set
        by_cases hi : i = p.toNat
        · rw [if_pos hi]
          subst hi
          by_cases ht : t ∈ (S p.toNat).who
          · rw [if_pos ht]; exact h.nodup _
          · rw [if_neg ht]
            exact List.nodup_append.2 ⟨h.nodup _, by simp, fun a ha b hb => by simp at hb; subst hb; exact fun e => ht (e ▸ ha)⟩
        · rw [if_neg hi]; exact h.nodup i
      · unfold Lk.give Lk.set at hy
        by_cases hi : i = p.toNat
        · rw [if_pos hi] at hy
          subst hi
          by_cases ht : t ∈ (S p.toNat).who
          · rw [if_pos ht] at hy; exact h.txn _ y hy
          · rw [if_neg ht] at hy
            rcases List.mem_append.1 hy with hy | hy
            · exact h.txn _ y hy
            · simp at hy; subst hy; exact ⟨hc.1, hc.2.1⟩
        · rw [if_neg hi] at hy; exact h.txn i y hy
      · unfold Lk.give Lk.set at hi ⊢
        by_cases hip : i = p.toNat
        · rw [if_pos hip] at hi ⊢
          subst hip
          simp only [Bool.or_eq_true, decide_eq_true_eq] at hi
          have hot : ¬ ∃ y ∈ (S p.toNat).who, y ≠ t := fun e => hno ⟨(others_true _ _).2 e, hi⟩
          have hall : ∀ y ∈ (S p.toNat).who, y = t := fun y hy => Classical.byContradiction fun hne => hot ⟨y, hy, hne⟩
          by_cases ht : t ∈ (S p.toNat).who
          · simp only [if_pos ht]
            have := h.nodup p.toNat
            match hw : (S p.toNat).who, ht with
            | [a], _ => rfl
            | a :: b :: l, _ =>
              rw [hw] at this hall
              have e1 := hall a (by simp)
              have e2 := hall b (by simp)
              rw [e1, e2] at this
              simp at this
          · simp only [if_neg ht]
            match hw : (S p.toNat).who with
            | [] => rfl
            | a :: l =>
              rw [hw] at hall ht
              exact absurd (by rw [← hall a (by simp)]; simp) ht
        · rw [if_neg hip] at hi ⊢; exact h.one i hi
    · rw [if_neg hc] at h0; cases h0
  · rw [if_neg h0]; exact h
theorem Lk.Ok.free {S : Lk} (h : S.Ok) (t : Int) : (S.free t).Ok := by
  refine ⟨fun i => ?_, fun i y hy => ?_, fun i hi => ?_⟩
  · unfold Lk.free
    by_cases ht : i < 8 ∧ t ∈ (S i).who
    · rw [if_pos ht]; exact (h.nodup i).erase t
    · rw [if_neg ht]; exact h.nodup i
  · unfold Lk.free at hy
    by_cases ht : i < 8 ∧ t ∈ (S i).who
    · rw [if_pos ht] at hy; exact h.txn i y (List.mem_of_mem_erase hy)
    · rw [if_neg ht] at hy; exact h.txn i y hy
  · unfold Lk.free at hi ⊢
    by_cases ht : i < 8 ∧ t ∈ (S i).who
    · rw [if_pos ht] at hi; cases hi
    · rw [if_neg ht] at hi ⊢; exact h.one i hi

/-- What a map of members holds. -/
def setV (l : List Int) (i : Int) : Option Value := if i ∈ l then some (.agg #[]) else none
/-- A map of members, or none. -/
def Held (w : World) (m : Option Nat) (l : List Int) : Prop := match m with
  | none => l = []
  | some b => IsMap w b (setV l)
theorem Held.keep {w w' : World} {m : Option Nat} {l : List Int} (h : Held w m l) (hk : ∀ b, m = some b → w'.heap[b]? = w.heap[b]?) : Held w' m l := by
  cases m with
  | none => exact h
  | some b => exact IsMap.keep h (hk b rfl)
theorem Held.below {w w' : World} {m : Option Nat} {l : List Int} (h : Held w m l) (hb : Below w.heap.size w w') : Held w' m l := h.keep fun b e => by
  subst e
  exact hb.block b (IsMap.lt h)
/-- A map without anybody has no entry more than there are members. -/
theorem entries_count {es : List MapEntry} {l : List Int} (he : Entries es) (hl : l.Nodup) (hf : ∀ i, findAt es i = setV l i) : es.length = l.length := by
  induction es generalizing l with
  | nil =>
    cases l with
    | nil => rfl
    | cons a l =>
      have := hf a
      simp [findAt, setV] at this
  | cons e es ih =>
    obtain ⟨k, hk⟩ := he.keys e (.head _)
    have hkm : k ∈ l := by
      have := hf k
      rw [findAt_cons e es k k hk, if_pos rfl] at this
      unfold setV at this
      by_cases hm : k ∈ l
      · exact hm
      · rw [if_neg hm] at this; cases this
    have hkn : findAt es k = none := findAt_none he.tail k fun x hx ex => (List.pairwise_cons.1 he.apart).1 x hx (by rw [hk, ex])
    have := ih (l := l.erase k) he.tail (hl.erase k) fun i => by
      unfold setV
      by_cases hik : i = k
      · subst hik
        rw [hkn, if_neg (fun hm => ((List.Nodup.mem_erase_iff hl).1 hm).1 rfl)]
      · have h1 := hf i
        rw [findAt_cons e es k i hk, if_neg (Ne.symm hik)] at h1
        rw [h1]
        unfold setV
        by_cases hm : i ∈ l
        · rw [if_pos hm, if_pos ((List.Nodup.mem_erase_iff hl).2 ⟨hik, hm⟩)]
        · rw [if_neg hm, if_neg (fun h => hm ((List.Nodup.mem_erase_iff hl).1 h).2)]
    rw [List.length_cons, this, List.length_erase_of_mem hkm]
    have := List.length_pos_of_mem hkm
    omega
theorem look9 {w : World} {m : Option Nat} {l : List Int} (h : Held w m l) (i : Int) :
    (Instr.lookup 44 (.map m) (.int .i64 i) true).run Try.prog w = .ok (.tuple #[.agg #[], .bool (decide (i ∈ l))]) w := by
  cases m with
  | none =>
    obtain rfl : l = [] := h
    rcases findNow_spec (d := .int .i64) (k := .int .i64 i) (by simp [IsKey]) [] 0 (by simp) with ⟨h1, _⟩ | ⟨j, e, _, h2, _⟩
    · have hz : (zeroValue 51).run Try.prog w = .ok (.agg #[]) w := by kernel_rfl
      simp [Instr.lookup, run_underlying Try.underlying44, MapKept.run_checkKey Try.underlying3 (show IsKey (.int .i64) (.int .i64 i) by simp [IsKey]), MapKept.run_findKey Try.underlying3 h1, hz, Result.andThen]
    · simp at h2
  | some b =>
    have := IsMap.look Try.underlying44 Try.underlying3 h i (z := .agg #[]) (by kernel_rfl)
    rw [this]
    unfold setV
    by_cases hm : i ∈ l
    · rw [if_pos hm]; simp [hm]
    · rw [if_neg hm]; simp [hm]
theorem len9 {w : World} {m : Option Nat} {l : List Int} (h : Held w m l) (hl : l.Nodup) :
    (Builtin.len_ #[44] 3 #[.map m]).run Try.prog w = .ok (.int .i64 l.length) w := by
  cases m with
  | none =>
    obtain rfl : l = [] := h
    simp [Builtin.len_, run_underlying Try.underlying44, Result.andThen, goInt]
  | some b =>
    obtain ⟨es, c, hb, he, hf⟩ := h
    have hs : es.size = l.length := by rw [← Array.length_toList]; exact entries_count he hl hf
    simp [Builtin.len_, run_underlying Try.underlying44, Result.andThen, goInt, MapKept.run_getObj_map hb, hs]
end Go.Proofs.Ytkeonffkaopclaa
