/- Package lock: Take. -/
import Derived.Test.YtkeonffkaopclaaLkD
namespace Go.Proofs.Ytkeonffkaopclaa
open Go.RowKit

/-- Who is in, is in: a new member comes last. -/
def joined (l : List Int) (t : Int) : List Int := if t ∈ l then l else l ++ [t]
theorem setV_joined (l : List Int) (t c : Int) : (if c = t then some (.agg #[]) else setV l c) = setV (joined l t) c := by
  unfold joined setV
  by_cases hc : c = t
  · subst hc
    rw [if_pos rfl]
    by_cases hl : c ∈ l
    · rw [if_pos hl, if_pos hl]
    · rw [if_neg hl, if_pos (by simp)]
  · rw [if_neg hc]
    by_cases ht : t ∈ l
    · rw [if_pos ht]
    · rw [if_neg ht]
      by_cases hl : c ∈ l
      · rw [if_pos hl, if_pos (by simp [hl])]
      · rw [if_neg hl, if_neg (by simp [hl, hc])]
theorem setV_erase {l : List Int} (h : l.Nodup) (t c : Int) : (if c = t then none else setV l c) = setV (l.erase t) c := by
  unfold setV
  by_cases hc : c = t
  · subst hc
    rw [if_pos rfl, if_neg (fun e => ((List.Nodup.mem_erase_iff h).1 e).1 rfl)]
  · rw [if_neg hc]
    by_cases hl : c ∈ l
    · rw [if_pos hl, if_pos ((List.Nodup.mem_erase_iff h).2 ⟨hc, hl⟩)]
    · rw [if_neg hl, if_neg (fun e => hl ((List.Nodup.mem_erase_iff h).1 e).2)]
theorem put9 {w : World} {b : Nat} {l : List Int} (h : IsMap w b (setV l)) (t : Int) :
    ∃ w', (Instr.mapUpdate 44 (.map (some b)) (.int .i64 t) (.agg #[])).run Try.prog w = .ok () w' ∧ IsMap w' b (setV (joined l t)) ∧ (∀ c, c ≠ b → w'.heap[c]? = w.heap[c]?) ∧ w'.heap.size = w.heap.size ∧ ∀ F : Foot, F b → Step F F w w' := by
  obtain ⟨o, h1, h2⟩ := h.put Try.underlying44 Try.underlying3 t (.agg #[])
  exact ⟨_, h1, h2.congr fun c => setV_joined l t c, fun c hc => (show (w.heap.setIfInBounds b o)[c]? = _ by rw [Array.getElem?_setIfInBounds, if_neg hc.symm]), by simp, fun F hF => (Step.refl F w).setObj hF o⟩
theorem drop9 {w : World} {b : Nat} {l : List Int} (h : IsMap w b (setV l)) (hn : l.Nodup) (t : Int) :
    ∃ w', (Builtin.delete_ #[44, 3] 0 #[.map (some b), .int .i64 t]).run Try.prog w = .ok (.tuple #[]) w' ∧ IsMap w' b (setV (l.erase t)) ∧ (∀ c, c ≠ b → w'.heap[c]? = w.heap[c]?) ∧ w'.heap.size = w.heap.size ∧ ∀ F : Foot, F b → Step F F w w' := by
  obtain ⟨o, h1, h2⟩ := h.drop Try.underlying44 Try.underlying3 t 0
  exact ⟨_, h1, h2.congr fun c => setV_erase hn t c, fun c hc => (show (w.heap.setIfInBounds b o)[c]? = _ by rw [Array.getElem?_setIfInBounds, if_neg hc.symm]), by simp, fun F hF => (Step.refl F w).setObj hF o⟩
theorem Held.some {w : World} {b : Nat} {l : List Int} (h : Held w (.some b) l) : IsMap w b (setV l) := h
namespace LkRaw
variable {w w' : World} {F : Foot} {q : Nat} {M : Nat → Option Nat} {S : Lk} {k b : Nat}
/-- A page's map was written, and its mark. -/
theorem wrote (r : LkRaw w F q M S) (hk : k < 8) (hM : M k = some b) {l : List Int} (hm : IsMap w' b (setV l)) (ho : ∀ c, c ≠ b → w'.heap[c]? = w.heap[c]?) (hs : w'.heap.size = w.heap.size) (x : Bool) :
    LkRaw (w'.setCell ⟨q, k * 2 + 1, none⟩ (.bool x)) F q M (S.set k ⟨l, x⟩) := by
  have hqb : q ≠ b := fun e => by
    have h1 := (r.held k hk)
    rw [hM] at h1
    exact IsMap.cells h1.some r.head e
  have hq : Blk w' q 49 (lkCells M S) := (ho q hqb).trans r.head
  refine ⟨?_, fun i hi => ?_, r.apart, r.fq, r.fm, fun c hc => by simp only [World.setCell, Array.size_modify, hs]; exact r.lt c hc⟩
  · have := hq.set (k * 2 + 1) (.bool x)
    rw [lkCells_setAlone M S l x k hk] at this
    exact this
  · unfold Lk.set
    by_cases hik : i = k
    · subst hik
      rw [if_pos rfl, hM]
      exact hm.keep (heap_setCell_other w' ⟨q, i * 2 + 1, none⟩ b _ hqb.symm)
    · rw [if_neg hik]
      refine (r.held i hi).keep fun c hc => ?_
      have hcb : c ≠ b := fun e => hik (r.apart i k b hi hk (by rw [hc, e]) hM)
      have hcq : c ≠ q := fun e => by
        have h1 := (r.held i hi)
        rw [hc] at h1
        exact IsMap.cells h1.some r.head e.symm
      exact (heap_setCell_other w' ⟨q, k * 2 + 1, none⟩ c _ hcq).trans (ho c hcb)
/-- A page gets a map. -/
theorem mapped (r : LkRaw w F q M S) (hk : k < 8) (hM : M k = none) :
    LkRaw ((w.alloc (.map #[] 0)).setCell ⟨q, k * 2, none⟩ (.map (some w.heap.size))) (fun b => F b ∨ b = w.heap.size) q (fun i => if i = k then some w.heap.size else M i) S := by
  have hlq := r.lt q r.fq
  have hqn : q ≠ w.heap.size := by omega
  have hq : Blk (w.alloc (.map #[] 0)) q 49 (lkCells M S) := r.head.alloc _
  refine ⟨?_, fun i hi => ?_, fun i j b hi hj h1 h2 => ?_, .inl r.fq, fun i b hi h => ?_, fun b hb => ?_⟩
  · have := hq.set (k * 2) (.map (some w.heap.size))
    rw [lkCells_setMap M S (some w.heap.size) k hk] at this
    exact this
  · by_cases hik : i = k
    · subst hik
      simp only [if_pos]
      have h0 := r.held i hi
      rw [hM] at h0
      have h0' : (S i).who = [] := h0
      rw [h0']
      exact ((IsMap.made w).congr fun c => by simp [setV]).keep (heap_setCell_other _ ⟨q, i * 2, none⟩ w.heap.size _ hqn.symm)
    · simp only [if_neg hik]
      refine (r.held i hi).keep fun c hc => ?_
      have hcq : c ≠ q := fun e => by
        have h1 := (r.held i hi)
        rw [hc] at h1
        exact IsMap.cells h1.some r.head e.symm
      exact (heap_setCell_other _ ⟨q, k * 2, none⟩ c _ hcq).trans (Below.heap_alloc w _ c (r.lt c (r.fm i c hi hc)))
  · by_cases hik : i = k <;> by_cases hjk : j = k
    · omega
    · simp only [if_pos hik, if_neg hjk, Option.some.injEq] at h1 h2
      have := r.lt b (r.fm j b hj h2)
      omega
    · simp only [if_neg hik, if_pos hjk, Option.some.injEq] at h1 h2
      have := r.lt b (r.fm i b hi h1)
      omega
    · simp only [if_neg hik, if_neg hjk] at h1 h2
      exact r.apart i j b hi hj h1 h2
  · by_cases hik : i = k
    · simp only [if_pos hik, Option.some.injEq] at h
      exact .inr h.symm
    · simp only [if_neg hik] at h
      exact .inl (r.fm i b hi h)
  · have e : ((w.alloc (.map #[] 0)).setCell ⟨q, k * 2, none⟩ (.map (some w.heap.size))).heap.size = w.heap.size + 1 := by simp [World.setCell]
    rw [e]
    rcases hb with hb | hb
    · have := r.lt b hb; omega
    · omega
end LkRaw

theorem step_mapped {w w1 : World} {F : Foot} {q k : Nat} (hb : Below w.heap.size w w1) (hq : F q) : Step F (fun b => F b ∨ b = w1.heap.size) w ((w1.alloc (.map #[] 0)).setCell ⟨q, k, none⟩ (.map (some w1.heap.size))) := by
  have h := ((Step.ofBelow (F := F) hb).alloc (.map #[] 0)).set (p := ⟨q, k, none⟩) hq (.map (some w1.heap.size))
  exact ⟨h.os, h.tape, h.output, h.size, h.block, fun b g => g.elim .inl fun e => .inr (by subst e; exact hb.size)⟩
/-- What a call leaves: the table, and what it wrote. -/
def OutL (w : World) (F : Foot) (q : Nat) (S : Lk) (v : Value) (e : Ending) (w' : World) : Prop := ∃ F', e = .returned v ∧ IsLock w' F' q S ∧ Step F F' w w'
section
variable {w : World} {F : Foot} {q : Nat} {S : Lk}
set_option maxRecDepth 100000 in
set_option maxHeartbeats 8000000 in
theorem lkTake_no (h : IsLock w F q S) (t p m : Int) (h0 : S.may t p m ≠ 0) :
    Calls Try.prog 10 #[.pointer (some ⟨q, 0, none⟩), .int .i64 t, .int .i64 p, .int .i64 m] w (OutL w F q S (.int .i64 (S.may t p m))) := by
  have K := Lib.hid (lkMay_any h t p m)
  have H := Lib.hid h
  have h1 : ((S.may t p m : Int) != 0) = true := by simpa using h0
  clear h
  generalize S.may t p m = n at *
  clear h0
  go_enter Try.func10, Try.ntmps10
  go_wp2_with fail
  refine K.out.mono ?_
  rintro e w1 ⟨rfl, hb⟩
  have H1 := Lib.hid (H.out.below hb)
  have HB := Lib.hid hb
  clear hb
  go_wp2
  go_ret
  exact ⟨F, rfl, H1.out, .ofBelow HB.out⟩
set_option maxRecDepth 100000 in
set_option maxHeartbeats 8000000 in
theorem lkTake_yes (h : IsLock w F q S) (t : Int) (k : Nat) (m : Int) (hk : k < 8) (h0 : S.may t k m = 0) (al two : Bool) (ha : (S k).alone = al) (h2 : m = bif two then 2 else 1) :
    Calls Try.prog 10 #[.pointer (some ⟨q, 0, none⟩), .int .i64 t, .int .i64 k, .int .i64 m] w (OutL w F q (S.give t k m) (.int .i64 0)) := by
  have K := Lib.hid (lkMay_any h t k m)
  have HOK : Hid (S.give t k m).Ok := by
    have := h.1.take t k m
    unfold Lk.take at this
    rw [if_pos h0, Int.toNat_natCast] at this
    exact this
  obtain ⟨ho, M, r⟩ := h
  have HR := Lib.hid r
  have hki : (k : Int) < 8 := by omega
  rw [h0] at K
  have HG : Hid (S.give t k m = S.set k ⟨joined (S k).who t, al || decide (m = 2)⟩) := by rw [← ha]; rfl
  have HA := Lib.hid ha
  have HK := Lib.hid hk
  clear ho r h0 ha hk
  have hmm := @run_makeMap Try.prog
  have hq := fun w => run_eql_map_nil_sl (P := Try.prog) w 44 _ _ (M k) Try.underlying44
  cases hM : M k with
  | none =>
    rw [hM] at hq
    have HM := Lib.hid hM
    clear hM
    cases two <;> simp only [cond_true, cond_false] at h2 <;> subst h2 <;> cases al <;> (
      go_enter Try.func10, Try.ntmps10
      go_wp2_with fail
      refine K.out.mono ?_
      rintro e w1 ⟨rfl, hb⟩
      have R1 := HR.out.below hb
      have c0 := R1.cMap HK.out
      rw [HM.out] at c0
      have A1 := R1.head.alloc (.map #[] 0)
      have f1 := A1.frozen (k * 2)
      have c1 : (w1.alloc (.map #[] 0)).cell? ⟨q, k * 2, none⟩ = some (.map none) := by rw [A1.cell, lkCells_map M S k HK.out, HM.out]
      have hex : ∃ M2 F2 g, w1.heap.size = g ∧ M2 k = some g ∧ LkRaw ((w1.alloc (.map #[] 0)).setCell ⟨q, k * 2, none⟩ (.map (some g))) F2 q M2 S ∧ Step F F2 w ((w1.alloc (.map #[] 0)).setCell ⟨q, k * 2, none⟩ (.map (some g))) :=
        ⟨_, _, _, rfl, if_pos rfl, R1.mapped HK.out HM.out, step_mapped hb HR.out.fq⟩
      obtain ⟨M2, F2, b, hg, hM2, R2, ST2⟩ := hex
      clear R1 A1
      go_upto_region 7 with fail
      change Code.wp _ _ _ _ ((w1.alloc (.map #[] 0)).setCell ⟨q, k * 2, none⟩ (.map (some b)))
      generalize (w1.alloc (.map #[] 0)).setCell ⟨q, k * 2, none⟩ (.map (some b)) = w2 at *
      clear c0 c1 f1 hg
      have c2 := R2.cMap HK.out
      rw [hM2] at c2
      have h2 := R2.held k HK.out
      rw [hM2] at h2
      obtain ⟨w3, e3, m3, o3, s3, st3⟩ := put9 h2.some t
      have hqb : q ≠ b := IsMap.cells h2.some R2.head
      have A3 : Blk w3 q 49 (lkCells M2 S) := (o3 q hqb).trans R2.head
      have c3 : w3.cell? ⟨q, k * 2 + 1, none⟩ = some (.bool (S k).alone) := by rw [A3.cell, lkCells_alone M2 S k HK.out]
      rw [HA.out] at c3
      have f3 := A3.frozen (k * 2 + 1)
      have W3 := Lib.hid (fun x => R2.wrote HK.out hM2 m3 o3 s3 x)
      have ST3 := Lib.hid (ST2.trans (st3 _ (R2.fm k b HK.out hM2)))
      have FQ := Lib.hid R2.fq
      clear h2 m3 o3 s3 st3 hqb A3 R2 ST2 hM2
      go_wp2
      go_ret
      exact ⟨_, rfl, ⟨HOK.out, _, by rw [HG.out]; exact W3.out _⟩, ST3.out.set (p := ⟨q, k * 2 + 1, none⟩) FQ.out _⟩)
  | some b =>
    rw [hM] at hq
    have HM := Lib.hid hM
    clear hM
    cases two <;> simp only [cond_true, cond_false] at h2 <;> subst h2 <;> cases al <;> (
      go_enter Try.func10, Try.ntmps10
      go_wp2_with fail
      refine K.out.mono ?_
      rintro e w2 ⟨rfl, hb⟩
      have R2 := HR.out.below hb
      have c0 := R2.cMap HK.out
      rw [HM.out] at c0
      have hM2 := HM.out
      have ST2 := Step.ofBelow (F := F) hb
      clear hb
      go_upto_region 7 with fail
      clear c0
      have c2 := R2.cMap HK.out
      rw [hM2] at c2
      have h2 := R2.held k HK.out
      rw [hM2] at h2
      obtain ⟨w3, e3, m3, o3, s3, st3⟩ := put9 h2.some t
      have hqb : q ≠ b := IsMap.cells h2.some R2.head
      have A3 : Blk w3 q 49 (lkCells M S) := (o3 q hqb).trans R2.head
      have c3 : w3.cell? ⟨q, k * 2 + 1, none⟩ = some (.bool (S k).alone) := by rw [A3.cell, lkCells_alone M S k HK.out]
      rw [HA.out] at c3
      have f3 := A3.frozen (k * 2 + 1)
      have W3 := Lib.hid (fun x => R2.wrote HK.out hM2 m3 o3 s3 x)
      have ST3 := Lib.hid (ST2.trans (st3 _ (R2.fm k b HK.out hM2)))
      have FQ := Lib.hid R2.fq
      clear h2 m3 o3 s3 st3 hqb A3 R2 ST2 hM2
      go_wp2
      go_ret
      exact ⟨_, rfl, ⟨HOK.out, _, by rw [HG.out]; exact W3.out _⟩, ST3.out.set (p := ⟨q, k * 2 + 1, none⟩) FQ.out _⟩)
theorem lkTake_any (h : IsLock w F q S) (t p m : Int) :
    Calls Try.prog 10 #[.pointer (some ⟨q, 0, none⟩), .int .i64 t, .int .i64 p, .int .i64 m] w (OutL w F q (S.take t p m) (.int .i64 (S.may t p m))) := by
  unfold Lk.take
  by_cases h0 : S.may t p m = 0
  · have hc : Call9 t p m := Classical.byContradiction fun hc => by
      unfold Lk.may at h0
      rw [if_neg hc] at h0
      cases h0
    obtain ⟨k, rfl⟩ : ∃ k : Nat, p = k := ⟨p.toNat, by have := hc.2.2.1; omega⟩
    have hm : m = bif decide (m = 2) then 2 else 1 := by
      rcases hc.2.2.2.2 with rfl | rfl <;> rfl
    rw [if_pos h0, h0, Int.toNat_natCast]
    exact lkTake_yes h t k m (by have := hc.2.2.2.1; omega) h0 _ (decide (m = 2)) rfl hm
  · rw [if_neg h0]
    exact lkTake_no h t p m h0
end
end Go.Proofs.Ytkeonffkaopclaa
