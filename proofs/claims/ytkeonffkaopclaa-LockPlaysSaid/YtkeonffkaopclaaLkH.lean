/- Package lock: Copy; calls of a table that is none. -/
import Derived.Test.YtkeonffkaopclaaLkG
namespace Go.Proofs.Ytkeonffkaopclaa
open Go.RowKit

/-- A copy under way: the first k pages have maps of their own. -/
structure Half (w w' : World) (q c : Nat) (M M' : Nat → Option Nat) (S : Lk) (k : Nat) : Prop where
  head : Blk w' c 49 (lkCells M' S)
  new : w.heap.size ≤ c
  held : ∀ i, i < k → Held w' (M' i) (S i).who
  far : ∀ i b, i < k → M' i = some b → c < b ∧ b < w'.heap.size
  apart : ∀ i j b, i < k → j < k → M' i = some b → M' j = some b → i = j
  rest : ∀ i, k ≤ i → M' i = M i
theorem Half.done {w w' : World} {q c : Nat} {M M' : Nat → Option Nat} {S : Lk} (h : Half w w' q c M M' S 8) : LkRaw w' (fun b => c ≤ b ∧ b < w'.heap.size) c M' S :=
  ⟨h.head, h.held, h.apart, ⟨Nat.le_refl _, h.head.lt⟩, fun i b hi hb => by have := h.far i b hi hb; omega, fun b hb => hb.2⟩
/-- One page more. -/
theorem Half.next {w w' w'' : World} {q c : Nat} {M M' : Nat → Option Nat} {S : Lk} {k : Nat} (h : Half w w' q c M M' S k) (hk : k < 8) {m : Option Nat} (hm : Held w'' m (S k).who) (hn : ∀ b, m = some b → w'.heap.size ≤ b) (hb : Below w'.heap.size w' w'') :
    Half w (w''.setCell ⟨c, k * 2, none⟩ (.map m)) q c M (fun i => if i = k then m else M' i) S (k + 1) := by
  have hc := h.head.lt
  have hh : Blk w'' c 49 (lkCells M' S) := h.head.keep hb hc
  have hsz : (w''.setCell ⟨c, k * 2, none⟩ (.map m)).heap.size = w''.heap.size := by simp [World.setCell]
  refine ⟨?_, h.new, fun i hi => ?_, fun i b hi hb' => ?_, fun i j b hi hj h1 h2 => ?_, fun i hi => ?_⟩
  · have := hh.set (k * 2) (.map m)
    rw [lkCells_setMap M' S m k hk] at this
    exact this
  · by_cases hik : i = k
    · subst hik
      simp only [if_pos]
      exact hm.keep fun b hb' => heap_setCell_other w'' ⟨c, i * 2, none⟩ b _ (fun e => by have := hn b hb'; have e' : b = c := e; omega)
    · simp only [if_neg hik]
      exact ((h.held i (by omega)).below hb).keep fun b hb' => heap_setCell_other w'' ⟨c, k * 2, none⟩ b _ (fun e => by have := h.far i b (by omega) hb'; have e' : b = c := e; omega)
  · rw [hsz]
    have := hb.size
    by_cases hik : i = k
    · subst hik
      simp only [if_pos] at hb'
      have h1 := hn b hb'
      subst hb'
      have h2 := IsMap.lt hm.some
      omega
    · simp only [if_neg hik] at hb'
      have := h.far i b (by omega) hb'
      omega
  · by_cases hik : i = k <;> by_cases hjk : j = k
    · omega
    · simp only [if_pos hik, if_neg hjk] at h1 h2
      have := h.far j b (by omega) h2
      have := hn b h1
      omega
    · simp only [if_neg hik, if_pos hjk] at h1 h2
      have := h.far i b (by omega) h1
      have := hn b h2
      omega
    · simp only [if_neg hik, if_neg hjk] at h1 h2
      exact h.apart i j b (by omega) (by omega) h1 h2
  · simp only [if_neg (show ¬ i = k by omega)]
    exact h.rest i (by omega)
section
variable {w : World} {F : Foot} {q : Nat} {S : Lk}
set_option maxRecDepth 100000 in
set_option maxHeartbeats 8000000 in
theorem lkCopy_any (h : IsLock w F q S) :
    Calls Try.prog 16 #[.pointer (some ⟨q, 0, none⟩)] w fun e w' => ∃ c F', e = .returned (.pointer (some ⟨c, 0, none⟩)) ∧ IsLock w' F' c S ∧ (∀ b, F' b → w.heap.size ≤ b) ∧ Below w.heap.size w w' := by
  obtain ⟨ho, M, r⟩ := h
  have HO := Lib.hid ho
  have HR := Lib.hid r
  have HBK := Lib.hid r.head
  have hq0 := r.head.lt
  have HX : Hid (Blk (w.alloc (.cells (lkCells (fun _ => none) Lk.empty) 49)) w.heap.size 49 (lkCells (fun _ => none) Lk.empty)) := Blk.new w _ _
  have HX2 : Hid (Blk ((w.alloc (.cells (lkCells (fun _ => none) Lk.empty) 49)).setRow w.heap.size (lkCells M S)) w.heap.size 49 (lkCells M S)) := HX.out.setRow _
  have HB2 : Hid (Below w.heap.size w ((w.alloc (.cells (lkCells (fun _ => none) Lk.empty) 49)).setRow w.heap.size (lkCells M S))) := below_setRow ((Below.refl _ _).alloc (Nat.le_refl _) _) (Nat.le_refl _) _
  have hsz : Hid ((lkCells M S).size = 16) := rfl
  have hnu : Hid ((lkCells M S).all (·.oneCell') = true) := by
    unfold Hid lkCells
    simp [Value.oneCell']
  clear ho r
  generalize hcs : lkCells M S = cs at *
  go_enter Try.func16, Try.ntmps16
  go_upto_region 4 with (first | (refine wpList_load_row rfl 49 _ rfl q rfl 49 _ (0, 0) _ HBK.out Try.underlying49 rfl (by rw [hsz.out]; kernel_rfl) ?_) | (refine wpList_store_row rfl 49 _ _ rfl w.heap.size _ rfl rfl 49 _ HX.out (by rw [hsz.out]; kernel_rfl) hsz.out.symm hnu.out ?_))
  subst hcs
  change Code.wp _ _ _ _ ((w.alloc (.cells (lkCells (fun _ => none) Lk.empty) 49)).setRow w.heap.size (lkCells M S))
  have H0 : Half w ((w.alloc (.cells (lkCells (fun _ => none) Lk.empty) 49)).setRow w.heap.size (lkCells M S)) q w.heap.size M M S 0 :=
    ⟨HX2.out, Nat.le_refl _, fun i hi => by omega, fun i b hi => by omega, fun i j b hi => by omega, fun _ _ => rfl⟩
  generalize (w.alloc (.cells (lkCells (fun _ => none) Lk.empty) 49)).setRow w.heap.size (lkCells M S) = w1 at *
  clear HX HX2 hsz hnu HBK
  go_wp2_with fail
  go_loopw [10] (fun i wr => ∃ k : Nat, ∃ M', k ≤ 8 ∧ i = .int .i64 k ∧ Half w wr q w.heap.size M M' S k ∧ Below w.heap.size w wr) (fun i _ => (8 - intOf i).toNat)
  case atStart => exact ⟨0, M, by omega, rfl, H0, HB2.out⟩
  case round =>
    obtain ⟨k, M', hk, rfl, hH, hB⟩ := hrel
    by_cases h8 : k < 8
    · have HH := Lib.hid hH
      have HB := Lib.hid hB
      have HK := Lib.hid h8
      have hki : (k : Int) < 8 := by omega
      have r := HR.out.below hB
      have c0 := r.cMap h8
      have K := Lib.hid (lkClone_any (r.held k h8))
      clear hH hB h8 hk r
      go_wp2_with fail
      refine K.out.mono ?_
      rintro e w2 ⟨m, rfl, hm, hn, hb⟩
      have hc : Blk w2 w.heap.size 49 (lkCells M' S) := HH.out.head.keep hb HH.out.head.lt
      have c3 : w2.cell? ⟨w.heap.size, k * 2, none⟩ = some (.map (M' k)) := by rw [hc.cell, lkCells_map M' S k HK.out]
      have f3 := hc.frozen (k * 2)
      have HN := Lib.hid (HH.out.next HK.out hm hn hb)
      have HB3 := Lib.hid (((HB.out.trans (hb.mono HB.out.size))).setCell (p := ⟨w.heap.size, k * 2, none⟩) (Nat.le_refl _) (.map m))
      clear hc hm hn hb c0 K
      go_wp2
      exact ⟨⟨k + 1, _, by have := HK.out; omega, by go_num, HN.out, HB3.out⟩, by simp [intOf]; have := HK.out; omega⟩
    · obtain rfl : k = 8 := by omega
      have HD := Lib.hid hH.done
      have HB := Lib.hid hB
      clear hH hB
      go_wp2
      go_ret
      exact ⟨_, _, rfl, ⟨HO.out, M', HD.out⟩, fun b hb => hb.1, HB.out⟩
set_option maxRecDepth 100000 in
theorem lkCopy_nil (w : World) : Calls Try.prog 16 #[.pointer none] w fun e w' => e = .returned (.pointer none) ∧ w = w' := by
  go_enter Try.func16, Try.ntmps16
  go_wp2
  go_ret
  exact ⟨rfl, rfl⟩
end
end Go.Proofs.Ytkeonffkaopclaa
