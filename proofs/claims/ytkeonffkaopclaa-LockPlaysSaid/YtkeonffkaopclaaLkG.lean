/- Package lock: Free. -/
import Derived.Test.YtkeonffkaopclaaLkF
namespace Go.Proofs.Ytkeonffkaopclaa
open Go.RowKit

/-- Some pages are let go. -/
def Lk.freeIn (S : Lk) (t : Int) (L : List Nat) : Lk := fun i => if i ∈ L then ⟨(S i).who.erase t, false⟩ else S i
theorem mem_pages {S : Lk} {t : Int} {i : Nat} : i ∈ S.pages t ↔ i < 8 ∧ t ∈ (S i).who := by
  unfold Lk.pages
  rw [List.mem_filter, List.mem_range]
  simp
theorem freeIn_all (S : Lk) (t : Int) : S.freeIn t (S.pages t) = S.free t := by
  funext i
  unfold Lk.freeIn Lk.free
  by_cases h : i < 8 ∧ t ∈ (S i).who
  · rw [if_pos h, if_pos (mem_pages.2 h)]
  · rw [if_neg h, if_neg fun e => h (mem_pages.1 e)]
theorem nodup_pages (S : Lk) (t : Int) : (S.pages t).Nodup := List.Nodup.sublist List.filter_sublist List.nodup_range
theorem freeIn_none (S : Lk) (t : Int) : S.freeIn t [] = S := by
  funext i
  unfold Lk.freeIn
  rw [if_neg (by simp)]
theorem freeIn_snoc {S : Lk} {t : Int} {L : List Nat} {k : Nat} (hk : k ∉ L) : (S.freeIn t L).set k ⟨((S.freeIn t L) k).who.erase t, false⟩ = S.freeIn t (L ++ [k]) := by
  funext i
  unfold Lk.set
  by_cases hi : i = k
  · subst hi
    rw [if_pos rfl]
    unfold Lk.freeIn
    rw [if_neg hk, if_pos (by simp)]
  · rw [if_neg hi]
    unfold Lk.freeIn
    by_cases h : i ∈ L
    · rw [if_pos h, if_pos (by simp [h])]
    · rw [if_neg h, if_neg (by simp [h, hi])]
theorem Lk.Ok.freeIn {S : Lk} (h : S.Ok) (t : Int) (L : List Nat) (i : Nat) : ((S.freeIn t L) i).who.Nodup := by
  unfold Lk.freeIn
  by_cases hi : i ∈ L
  · rw [if_pos hi]; exact (h.nodup i).erase t
  · rw [if_neg hi]; exact h.nodup i
theorem Step.cell_far {F F' : Foot} {w w' : World} (h : Step F F' w w') {g i : Nat} (hg : g < w.heap.size) (hF : ¬ F g) : w'.cell? ⟨g, i, none⟩ = w.cell? ⟨g, i, none⟩ := by
  exact World.cell?_of_block (h.block g hg hF)
section
variable {w : World} {F : Foot} {q : Nat} {S : Lk}
set_option maxRecDepth 100000 in
set_option maxHeartbeats 8000000 in
theorem lkFree_any (h : IsLock w F q S) (t : Int) :
    Calls Try.prog 12 #[.pointer (some ⟨q, 0, none⟩), .int .i64 t] w (OutL w F q (S.free t) (.int .i64 (S.pages t).length)) := by
  have K := Lib.hid (lkPages_any h t)
  have H := Lib.hid h
  have HF := Lib.hid (fun L => h.1.freeIn t L)
  have HOK := Lib.hid (h.1.free t)
  obtain ⟨ho, M, r⟩ := h
  have HR := Lib.hid r
  clear ho r
  go_enter Try.func12, Try.ntmps12
  go_wp2_with fail
  refine K.out.mono ?_
  rintro e w1 ⟨v, rfl, hown, hb⟩
  have hl8 : (S.pages t).length ≤ 8 := pagesTo_le S t 8
  have R1 := HR.out.below hb
  have ST1 := Step.ofBelow (F := F) hb
  obtain ⟨a0, cap, rfl, _⟩ : ∃ a cap, v = .slice a (S.pages t).length cap ∧ True := by
    rcases own_any hown with ⟨rfl, h0, _⟩ | ⟨g, cap, rfl, _⟩
    · exact ⟨none, 0, by rw [h0], trivial⟩
    · exact ⟨_, _, rfl, trivial⟩
  have HO := Lib.hid hown
  have HB := Lib.hid hb
  have hlm : ((S.pages t).length : Int) ≤ 9223372036854775807 := by omega
  clear hown hb
  go_wp2
  go_loopw [14] (fun i wr => ∃ k : Nat, k ≤ (S.pages t).length ∧ i = .int .i64 k ∧ LkRaw wr F q M (S.freeIn t ((S.pages t).take k)) ∧ Step F F w1 wr) (fun i _ => ((S.pages t).length - intOf i).toNat)
  case atStart => exact ⟨0, Nat.zero_le _, rfl, by rw [List.take_zero, freeIn_none]; exact R1, .refl _ _⟩
  case round =>
    obtain ⟨j, hj, rfl, hr, hst⟩ := hrel
    by_cases hlt : j < (S.pages t).length
    · generalize hk : (S.pages t)[j] = k at *
      have hmem : k ∈ S.pages t := hk ▸ List.getElem_mem hlt
      have hk8 : k < 8 := (mem_pages.1 hmem).1
      have htk : t ∈ (S k).who := (mem_pages.1 hmem).2
      have htake : (S.pages t).take (j + 1) = (S.pages t).take j ++ [k] := by rw [List.take_succ_eq_append_getElem hlt, hk]
      have hnot : k ∉ (S.pages t).take j := fun hm => by
        have hn := (nodup_pages S t).sublist (List.take_sublist (j + 1) _)
        rw [htake] at hn
        exact (List.nodup_append.1 hn).2.2 k hm k (by simp) rfl
      obtain ⟨g, gc, hsl, _⟩ := own_form HO.out (by omega)
      cases hsl
      have hgl := (HO.out.lt g rfl)
      have hcell : wr.cell? ⟨g, j, none⟩ = some (.int .i64 k) := by
        have h1 := HO.out.cells (g := g) rfl j (.int .i64 k) (by unfold numsV; rw [List.getElem?_map, List.getElem?_eq_getElem hlt, hk]; rfl)
        have e0 : (⟨g, 0, none⟩ : Addr).add j = ⟨g, j, none⟩ := by unfold Addr.add; split <;> simp_all
        rw [e0] at h1
        rw [← h1]
        exact Step.cell_far hst hgl.2 fun hF => by have := HR.out.lt g hF; omega
      have hM : ∃ b, M k = some b := by
        cases hM : M k with
        | none =>
          have h0 := HR.out.held k hk8
          rw [hM] at h0
          rw [show (S k).who = [] from h0] at htk
          cases htk
        | some b => exact ⟨b, rfl⟩
      obtain ⟨b, hM⟩ := hM
      have c2 := hr.cMap hk8
      rw [hM] at c2
      have h2 := hr.held k hk8
      rw [hM] at h2
      obtain ⟨w3, e3, m3, o3, s3, st3⟩ := drop9 h2.some (HF.out _ k) t
      have hqb : q ≠ b := IsMap.cells h2.some hr.head
      have A3 : Blk w3 q 49 (lkCells M (S.freeIn t ((S.pages t).take j))) := (o3 q hqb).trans hr.head
      have c3 : w3.cell? ⟨q, k * 2 + 1, none⟩ = some (.bool ((S.freeIn t ((S.pages t).take j)) k).alone) := by rw [A3.cell, lkCells_alone M _ k hk8]
      have f3 := A3.frozen (k * 2 + 1)
      have W3 := hr.wrote hk8 hM m3 o3 s3 false
      rw [freeIn_snoc hnot, ← htake] at W3
      have HW3 := Lib.hid W3
      have HST3 := Lib.hid ((hst.trans (st3 _ (hr.fm k b hk8 hM))).set (p := ⟨q, k * 2 + 1, none⟩) hr.fq (.bool false))
      have hki : (k : Int) < 8 := by omega
      have HLT := Lib.hid hlt
      clear hnot htake h2 m3 o3 s3 st3 hqb A3 W3 hr hst hM hk hmem htk hk8 hj R1 ST1 hgl
      go_wp2
      exact ⟨⟨j + 1, HLT.out, by go_num, HW3.out, HST3.out⟩, by simp [intOf]; have := HLT.out; omega⟩
    · obtain rfl : j = (S.pages t).length := by omega
      rw [List.take_length, freeIn_all] at hr
      have HR2 := Lib.hid hr
      have HST := Lib.hid (ST1.trans hst)
      clear hr hst R1 ST1 hj
      go_wp2
      go_ret
      exact ⟨F, rfl, ⟨HOK.out, M, HR2.out⟩, HST.out⟩
end
end Go.Proofs.Ytkeonffkaopclaa
