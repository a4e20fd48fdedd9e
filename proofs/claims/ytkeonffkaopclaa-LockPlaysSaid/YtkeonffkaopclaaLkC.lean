/- Package lock: a table in memory; New, May, Mode. -/
import Derived.Test.YtkeonffkaopclaaLkB
namespace Go.Proofs.Ytkeonffkaopclaa
open Go.RowKit

def lkCells (M : Nat → Option Nat) (S : Lk) : Array Value :=
  #[.map (M 0), .bool (S 0).alone, .map (M 1), .bool (S 1).alone, .map (M 2), .bool (S 2).alone, .map (M 3), .bool (S 3).alone, .map (M 4), .bool (S 4).alone, .map (M 5), .bool (S 5).alone, .map (M 6), .bool (S 6).alone, .map (M 7), .bool (S 7).alone]
theorem lkCells_map (M : Nat → Option Nat) (S : Lk) : ∀ k, k < 8 → (lkCells M S)[k * 2]? = some (.map (M k))
  | 0, _ => rfl | 1, _ => rfl | 2, _ => rfl | 3, _ => rfl | 4, _ => rfl | 5, _ => rfl | 6, _ => rfl | 7, _ => rfl
  | n + 8, h => by omega
theorem lkCells_alone (M : Nat → Option Nat) (S : Lk) : ∀ k, k < 8 → (lkCells M S)[k * 2 + 1]? = some (.bool (S k).alone)
  | 0, _ => rfl | 1, _ => rfl | 2, _ => rfl | 3, _ => rfl | 4, _ => rfl | 5, _ => rfl | 6, _ => rfl | 7, _ => rfl
  | n + 8, h => by omega
theorem lkCells_setMap (M : Nat → Option Nat) (S : Lk) (x : Option Nat) : ∀ k, k < 8 → (lkCells M S).setIfInBounds (k * 2) (.map x) = lkCells (fun i => if i = k then x else M i) S
  | 0, _ => rfl | 1, _ => rfl | 2, _ => rfl | 3, _ => rfl | 4, _ => rfl | 5, _ => rfl | 6, _ => rfl | 7, _ => rfl
  | n + 8, h => by omega
theorem lkCells_setAlone (M : Nat → Option Nat) (S : Lk) (l : List Int) (x : Bool) : ∀ k, k < 8 → (lkCells M S).setIfInBounds (k * 2 + 1) (.bool x) = lkCells M (S.set k ⟨l, x⟩)
  | 0, _ => rfl | 1, _ => rfl | 2, _ => rfl | 3, _ => rfl | 4, _ => rfl | 5, _ => rfl | 6, _ => rfl | 7, _ => rfl
  | n + 8, h => by omega
structure LkRaw (w : World) (F : Foot) (q : Nat) (M : Nat → Option Nat) (S : Lk) : Prop where
  head : Blk w q 49 (lkCells M S)
  held : ∀ i, i < 8 → Held w (M i) (S i).who
  apart : ∀ i j b, i < 8 → j < 8 → M i = some b → M j = some b → i = j
  fq : F q
  fm : ∀ i b, i < 8 → M i = some b → F b
  lt : ∀ b, F b → b < w.heap.size
/-- The table at block q, with the footprint F, is S. -/
def IsLock (w : World) (F : Foot) (q : Nat) (S : Lk) : Prop := S.Ok ∧ ∃ M, LkRaw w F q M S
namespace LkRaw
variable {w w' : World} {F F2 F2' : Foot} {q : Nat} {M : Nat → Option Nat} {S : Lk}
theorem keep (h : LkRaw w F q M S) (hk : ∀ b, F b → w'.heap[b]? = w.heap[b]?) (hs : w.heap.size ≤ w'.heap.size) : LkRaw w' F q M S :=
  ⟨(hk q h.fq).trans h.head, fun i hi => (h.held i hi).keep fun b hb => hk b (h.fm i b hi hb), h.apart, h.fq, h.fm, fun b hb => Nat.lt_of_lt_of_le (h.lt b hb) hs⟩
theorem below (h : LkRaw w F q M S) (hb : Below w.heap.size w w') : LkRaw w' F q M S := h.keep (fun b hF => hb.block b (h.lt b hF)) hb.size
theorem cMap (h : LkRaw w F q M S) {k : Nat} (hk : k < 8) : w.cell? ⟨q, k * 2, none⟩ = some (.map (M k)) := by rw [h.head.cell, lkCells_map M S k hk]
theorem cAlone (h : LkRaw w F q M S) {k : Nat} (hk : k < 8) : w.cell? ⟨q, k * 2 + 1, none⟩ = some (.bool (S k).alone) := by rw [h.head.cell, lkCells_alone M S k hk]
end LkRaw
namespace IsLock
variable {w w' : World} {F F2 F2' : Foot} {q : Nat} {S : Lk}
theorem keep (h : IsLock w F q S) (hk : ∀ b, F b → w'.heap[b]? = w.heap[b]?) (hs : w.heap.size ≤ w'.heap.size) : IsLock w' F q S := by
  obtain ⟨ho, M, r⟩ := h
  exact ⟨ho, M, r.keep hk hs⟩
theorem below (h : IsLock w F q S) (hb : Below w.heap.size w w') : IsLock w' F q S := by
  obtain ⟨ho, M, r⟩ := h
  exact ⟨ho, M, r.below hb⟩
theorem lt (h : IsLock w F q S) : ∀ b, F b → b < w.heap.size := by obtain ⟨_, _, r⟩ := h; exact r.lt
/-- What another one does. -/
theorem apart (h : IsLock w F q S) (hs : Step F2 F2' w w') (ha : ∀ b, F b → ¬ F2 b) : IsLock w' F q S ∧ ∀ b, F b → ¬ F2' b :=
  ⟨h.keep (fun b hb => hs.block b (h.lt b hb) (ha b hb)) hs.size, fun b hb g => (hs.foot b g).elim (ha b hb) (fun k => by have := h.lt b hb; omega)⟩
end IsLock

section
variable {w : World} {F : Foot} {q : Nat} {S : Lk}
set_option maxRecDepth 100000 in
set_option maxHeartbeats 4000000 in
theorem lkNew_any (w : World) : Calls Try.prog 9 #[] w fun e w' => e = .returned (.pointer (some ⟨w.heap.size, 0, none⟩)) ∧ IsLock w' (fun b => b = w.heap.size) w.heap.size Lk.empty ∧ Below w.heap.size w w' := by
  have x := Blk.new w 49 (lkCells (fun _ => none) Lk.empty)
  have H : Hid (IsLock (w.alloc (.cells (lkCells (fun _ => none) Lk.empty) 49)) (fun b => b = w.heap.size) w.heap.size Lk.empty ∧ Below w.heap.size w (w.alloc (.cells (lkCells (fun _ => none) Lk.empty) 49))) :=
    ⟨⟨Lk.ok_empty, fun _ => none, x, fun i _ => show Held _ none [] from rfl, fun _ _ _ _ _ h => (by cases h), rfl, fun _ _ _ h => (by cases h), fun b hb => (by subst hb; simp)⟩, (Below.refl _ _).alloc (Nat.le_refl _) _⟩
  clear x
  go_enter Try.func9, Try.ntmps9
  go_wp2
  go_ret
  exact ⟨rfl, H.out.1, H.out.2⟩
set_option maxRecDepth 100000 in
set_option maxHeartbeats 4000000 in
theorem lkMode_any (h : IsLock w F q S) (t p : Int) :
    Calls Try.prog 17 #[.pointer (some ⟨q, 0, none⟩), .int .i64 t, .int .i64 p] w fun e w' => e = .returned (.int .i64 (S.mode t p)) ∧ Below w.heap.size w w' := by
  have HP := Lib.hid (fun W => lkPage_any p W)
  by_cases hp : 0 ≤ p ∧ p < 8
  · obtain ⟨k, rfl⟩ : ∃ k : Nat, p = k := ⟨p.toNat, by omega⟩
    have hk : k < 8 := by omega
    have hki : (k : Int) < 8 := by omega
    rw [decide_eq_true hp] at HP
    obtain ⟨ho, M, r⟩ := h
    have HH := Lib.hid (fun W (hW : Below w.heap.size w W) => lkHas_any ((r.below hW).held k hk) (S k).alone t)
    have c0 := r.cMap hk
    have c1 := r.cAlone hk
    have HR := Lib.hid r
    have HS : Hid (S.mode t k = if t ∈ (S k).who then (if (S k).alone then 2 else 1) else 0) := by
      unfold Hid Lk.mode
      rw [Int.toNat_natCast]
      by_cases ht : t ∈ (S k).who
      · rw [if_pos ⟨hp.1, hp.2, ht⟩, if_pos ht]
      · rw [if_neg (fun e => ht e.2.2), if_neg ht]
    clear r ho hp hk
    have fin : ∀ (b : Bool), decide (t ∈ (S k).who) = b → Hid (S.mode t k = bif b then (bif (S k).alone then 2 else 1) else 0) := fun b hb => by
      have := HS.out
      subst hb
      rw [this]
      unfold Hid
      by_cases ht : t ∈ (S k).who
      · cases ha : (S k).alone <;> simp [ht]
      · simp [ht]
    clear HS
    generalize hbb : decide (t ∈ (S k).who) = b at *
    replace fin := fin b rfl
    clear hbb
    generalize (S k).alone = al at *
    generalize M k = mk at *
    cases b with
    | true =>
      cases al with
      | true =>
        go_enter Try.func17, Try.ntmps17
        go_wp2_with fail
        refine (HP.out _).mono ?_
        rintro e w1 ⟨rfl, rfl⟩
        go_wp2_with fail
        refine (HH.out _ (Below.refl _ _)).mono ?_
        rintro e w2 ⟨rfl, hb⟩
        have c2 := (hb.cell (p := ⟨q, k * 2 + 1, none⟩) (World.block_lt_of_cell? w ⟨q, k * 2 + 1, none⟩ c1)).trans c1
        have HB := Lib.hid hb
        clear hb
        go_wp2
        go_ret
        exact ⟨by rw [fin.out]; rfl, HB.out⟩
      | false =>
        go_enter Try.func17, Try.ntmps17
        go_wp2_with fail
        refine (HP.out _).mono ?_
        rintro e w1 ⟨rfl, rfl⟩
        go_wp2_with fail
        refine (HH.out _ (Below.refl _ _)).mono ?_
        rintro e w2 ⟨rfl, hb⟩
        have c2 := (hb.cell (p := ⟨q, k * 2 + 1, none⟩) (World.block_lt_of_cell? w ⟨q, k * 2 + 1, none⟩ c1)).trans c1
        have HB := Lib.hid hb
        clear hb
        go_wp2
        go_ret
        exact ⟨by rw [fin.out]; rfl, HB.out⟩
    | false =>
      go_enter Try.func17, Try.ntmps17
      go_wp2_with fail
      refine (HP.out _).mono ?_
      rintro e w1 ⟨rfl, rfl⟩
      go_wp2_with fail
      refine (HH.out _ (Below.refl _ _)).mono ?_
      rintro e w2 ⟨rfl, hb⟩
      have HB := Lib.hid hb
      clear hb
      go_wp2
      go_ret
      exact ⟨by rw [fin.out]; rfl, HB.out⟩
  · rw [decide_eq_false hp] at HP
    have HS : Hid (S.mode t p = 0) := if_neg fun e => hp ⟨e.1, e.2.1⟩
    clear hp h
    go_enter Try.func17, Try.ntmps17
    go_wp2_with fail
    refine (HP.out _).mono ?_
    rintro e w1 ⟨rfl, rfl⟩
    go_wp2
    go_ret
    exact ⟨by rw [HS.out]; rfl, Below.refl _ _⟩
end
end Go.Proofs.Ytkeonffkaopclaa
