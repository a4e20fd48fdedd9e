/- careenref10: Rows; Back. -/
import Derived.Test.YtfbghdkbimnnbaaTrC
namespace Go.Proofs.Ytfbghdkbimnnbaa
open Go.RowKit

theorem rowsT_append (a b : List Tx) : rowsT (a ++ b) = rowsT a ++ rowsT b := by unfold rowsT; rw [List.filter_append, List.map_append]
section
variable {w : World} {G : Foot} {g : Nat} {l : Tb}
set_option maxRecDepth 100000 in
set_option maxHeartbeats 8000000 in
theorem dtRows_any (h : IsDt w G g l) : Calls Try.prog 26 #[.pointer (some ⟨g, 0, none⟩)] w (RowsOut w l) := by
  obtain ⟨i0, hi, hz0, hz1, hz2⟩ := info_parts info_row
  obtain ⟨ho, v, V, r⟩ := h
  obtain ⟨a, cap, hv, c0, hcap, hcm, hrow⟩ := r.look
  have HROW := Lib.hid hrow
  have hg := r.head.lt
  have hl4 : (l.length : Int) ≤ 4 := by have := ho.few; omega
  clear r hrow hcm hv ho
  go_enter Try.func26, Try.ntmps26
  go_wp2
  go_loopw [3, 4] (fun o j wr => ∃ k : Nat, k ≤ l.length ∧ wr.ownsRow w.heap.size 46 3 o (rowsT (l.take k)).length (rwV (rowsT (l.take k))) ∧ j = .int .i64 k ∧ Below w.heap.size w wr) (fun _ j _ => (l.length - intOf j).toNat)
  case atStart => exact ⟨0, Nat.zero_le _, World.ownsRow_nil _ _ _ _, rfl, Below.refl _ _⟩
  case round =>
    obtain ⟨k, hk, hown, rfl, hB⟩ := hrel
    have cg := (hB.cell (p := ⟨g, 0, none⟩) hg).trans c0
    have HB := Lib.hid hB
    by_cases hkl : k < l.length
    · have hkli : (k : Int) < l.length := by omega
      obtain ⟨b, rfl, hb, _, hc⟩ := HROW.out k l[k] (List.getElem?_eq_getElem hkl)
      have d0 := (hB.cell (p := ⟨b, k * 5 + 0, none⟩) hb).trans (hc 0 (by omega))
      have d1 := (hB.cell (p := ⟨b, k * 5 + 1, none⟩) hb).trans (hc 1 (by omega))
      have d2 := (hB.cell (p := ⟨b, k * 5 + 2, none⟩) hb).trans (hc 2 (by omega))
      simp [stCells] at d0 d1 d2
      have HKI := Lib.hid hkl
      have htk : l.take (k + 1) = l.take k ++ [l[k]] := List.take_succ_eq_append_getElem hkl
      have hlen : (rowsT (l.take k)).length ≤ 4 := by
        unfold rowsT
        rw [List.length_map]
        have h1 := List.length_filter_le (fun x : Tx => decide (0 < x.last)) (l.take k)
        rw [List.length_take] at h1
        omega
      have HLN := Lib.hid hlen
      have HOW := Lib.hid hown
      have hBz := hB.size
      by_cases hpos : 0 < l[k].last
      · have HS : Hid (rowsT (l.take (k + 1)) = rowsT (l.take k) ++ [(l[k].txn, l[k].first, l[k].last)]) := by
          unfold Hid
          rw [htk, rowsT_append]
          show _ ++ rowsT [l[k]] = _
          rw [rowsT_yes hpos]
          rfl
        clear hc hB htk hown hlen
        generalize l[k] = x at *
        obtain ⟨t0, f1, f2, lf, mm⟩ := x
        simp only at *
        generalize rowsT (l.take k) = D at *
        have HSN := Lib.hid (rwV_snoc D (t0, f1, f2))
        obtain ⟨va, vc, hvs⟩ := own_slice HOW.out
        subst hvs
        go_wp2_with (at_builtin; refine wpList_append_own_at _ rfl (.tmp 24) (.tmp 33) 52 rfl w.heap.size 46 i0 (.agg #[.int .i64 0, .int .i64 0, .int .i64 0]) 3 24 Try.underlying52 hi hz0 hz1 hz2 rfl (by decide) _ _ _ rfl (HOW.out.alloc _) ⟨wr.heap.size, 0, none⟩ 1 1 [.int .i64 t0, .int .i64 f1, .int .i64 f2] rfl rfl (World.news_of_block (Blk.new _ _ _)) (by simp [Value.oneCell']) (by simp only [maxLen]; have := HLN.out; omega) (by have := HLN.out; omega) (by simp; omega) ?_)
        intro v' w2 hown' hgrow _ _
        rw [HSN.out] at hown'
        have HB2 := Lib.hid ((HB.out.alloc HB.out.size _).grown hgrow (by simp; omega) (fun k hk => (HOW.out.lt k hk).1))
        have HO2 : Hid (w2.ownsRow w.heap.size 46 3 v' (rowsT (l.take (k + 1))).length (rwV (rowsT (l.take (k + 1))))) := by
          unfold Hid
          rw [HS.out, List.length_append]
          exact hown'
        clear hown' hgrow
        go_wp2
        exact ⟨⟨k + 1, HKI.out, HO2.out, by go_num, HB2.out⟩, by simp [intOf]; have := HKI.out; omega⟩
      · have HS : Hid (rowsT (l.take (k + 1)) = rowsT (l.take k)) := by
          unfold Hid
          rw [htk, rowsT_append]
          show _ ++ rowsT [l[k]] = _
          rw [rowsT_no hpos]
          exact List.append_nil _
        clear hc hB htk hown hlen
        generalize l[k] = x at *
        obtain ⟨t0, f1, f2, lf, mm⟩ := x
        simp only at *
        go_wp2
        exact ⟨⟨k + 1, HKI.out, by rw [HS.out]; exact HOW.out, by go_num, HB.out⟩, by simp [intOf]; have := HKI.out; omega⟩
    · obtain rfl : k = l.length := by omega
      rw [List.take_length] at hown
      have OUT : Hid (RowsOut w l (.returned u3) wr) := by
        rw [← rows_eq] at hown
        rcases own_any hown with ⟨rfl, h0, hx⟩ | ⟨b, cp, rfl, h1, h2⟩
        · have hr0 : l.rows = [] := List.eq_nil_of_length_eq_zero h0
          exact ⟨none, 0, by rw [h0], ⟨by rw [h0]; exact Nat.le_refl _, fun j p hj => by rw [hr0] at hj; simp at hj⟩, hB⟩
        · refine ⟨_, cp, rfl, ⟨h1, fun j p hj => ?_⟩, hB⟩
          have hjl := (List.getElem?_eq_some_iff.1 hj).1
          obtain ⟨p0, p1, p2⟩ := rwV_at l.rows j p hj
          refine ⟨b, 0, rfl, ?_, ?_, ?_⟩ <;> rw [Nat.zero_add]
          · rw [hown.cellAt _ (by omega)]; exact p0
          · rw [hown.cellAt _ (by omega)]; exact p1
          · rw [hown.cellAt _ (by omega)]; exact p2
      clear hB hown
      go_wp2
      go_ret
      exact OUT.out
set_option maxRecDepth 100000 in
set_option maxHeartbeats 8000000 in
theorem dtBack_none (h : IsDt w G g l) (t k : Int) (hx : l.at_ t = none) :
    Calls Try.prog 19 #[.pointer (some ⟨g, 0, none⟩), .int .i64 t, .int .i64 k] w (OutD w G g l (.tuple #[.int .i64 0, .int .i64 0, .int .i64 7])) := by
  have H := Lib.hid h
  obtain ⟨ho, v, V, r⟩ := h
  have K := Lib.hid (dtFind_none r ho.few t (Tb.at_none hx))
  clear r ho hx
  go_enter Try.func19, Try.ntmps19
  go_wp2_with fail
  refine K.out.mono ?_
  rintro e w1 ⟨rfl, hb⟩
  have FIN := Lib.hid (H.out.below hb)
  have ST := Lib.hid (Step.ofBelow (F := G) hb)
  clear hb
  go_wp2
  go_ret3
  exact ⟨G, rfl, FIN.out, ST.out⟩
set_option maxRecDepth 100000 in
set_option maxHeartbeats 8000000 in
theorem dtBack_bad (h : IsDt w G g l) (t k : Int) {x : Tx} (hx : l.at_ t = some x) (hk : k < 0 ∨ x.marks.length ≤ k) :
    Calls Try.prog 19 #[.pointer (some ⟨g, 0, none⟩), .int .i64 t, .int .i64 k] w (OutD w G g l (.tuple #[.int .i64 0, .int .i64 0, .int .i64 7])) := by
  obtain ⟨i, hi, ht, hn⟩ := idx_some hx
  have H := Lib.hid h
  obtain ⟨ho, v, V, r⟩ := h
  have K := Lib.hid (dtFind_some r ho.few t i x hi ht hn)
  have HSP : Hid (∀ W, Below w.heap.size w W → ∃ b cap, DtAt W g V l x.txn x i b cap) := fun W hW => by
    obtain ⟨b, cap, h1, h2, h3⟩ := (r.below hW).spot ho.few hi
    exact ⟨b, cap, h3⟩
  have hl4 : (l.length : Int) ≤ 4 := by have := ho.few; omega
  have hi4 : (i : Int) < l.length := by have := (List.getElem?_eq_some_iff.1 hi).1; omega
  obtain ⟨va, vc, hvs⟩ := own_slice (r.mks x (List.mem_of_getElem? hi))
  have hk' : decide (k < 0) = true ∨ (decide (k < 0) = false ∧ decide ((x.marks.length : Int) ≤ k) = true) := by
    by_cases h0 : k < 0
    · exact .inl (decide_eq_true h0)
    · exact .inr ⟨decide_eq_false h0, decide_eq_true (by omega)⟩
  have hl2 : (x.marks.length : Int) ≤ 4 := by have := ho.marks x (Tb.at_some hx).1; omega
  clear r ho hx hk hi ht hn
  rcases hk' with hk | ⟨hk, hk2⟩ <;> (
    go_enter Try.func19, Try.ntmps19
    go_wp2_with fail
    refine K.out.mono ?_
    rintro e w1 ⟨rfl, hb⟩
    obtain ⟨b, cap, A⟩ := HSP.out w1 hb
    have c := A.c
    have c4 := A.c4
    rw [hvs] at c4
    have hcap := A.hcap
    have FIN := Lib.hid (H.out.below hb)
    have ST := Lib.hid (Step.ofBelow (F := G) hb)
    clear hb A
    generalize x.marks.length = m at *
    generalize l.length = n at *
    go_wp2
    go_ret3
    exact ⟨G, rfl, FIN.out, ST.out⟩)
end
end Go.Proofs.Ytfbghdkbimnnbaa
