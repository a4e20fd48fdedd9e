/- careenref10: Begin. -/
import Derived.Test.YtfbghdkbimnnbaaTrG
namespace Go.Proofs.Ytfbghdkbimnnbaa
open Go.RowKit

theorem info_txn : (Try.prog.toTables.info? 69).map (fun i => (i.zero, i.size, i.bytes)) = some (some (.agg #[.int .i64 0, .int .i64 0, .int .i64 0, .int .i64 0, .slice none 0 0]), 5, 56) := by kernel_rfl
theorem und_txns : Try.prog.underlying 27 = some (.slice (Try.prog.elem 27)) := by kernel_rfl
theorem elem_txns : Try.prog.elem 27 = 69 := by kernel_rfl
theorem size_txn : ∀ w, (sizeOf 69).run Try.prog w = .ok 5 w := fun w => by kernel_rfl
section
variable {w : World} {G : Foot} {g : Nat} {l : Tb}
set_option maxRecDepth 100000 in
set_option maxHeartbeats 8000000 in
theorem dtBegin_bad (h : IsDt w G g l) (t : Int) (hb : t < 1 ∨ 2147483647 < t) :
    Calls Try.prog 11 #[.pointer (some ⟨g, 0, none⟩), .int .i64 t] w (OutD w G g l (.int .i64 1)) := by
  have H := Lib.hid h
  clear h
  rcases hb with h1 | h1
  · go_enter Try.func11, Try.ntmps11
    go_wp2
    go_ret
    exact OutD.same H.out _
  · by_cases h2 : t < 1
    · go_enter Try.func11, Try.ntmps11
      go_wp2
      go_ret
      exact OutD.same H.out _
    · go_enter Try.func11, Try.ntmps11
      go_wp2
      go_ret
      exact OutD.same H.out _
set_option maxRecDepth 100000 in
set_option maxHeartbeats 8000000 in
theorem dtBegin_once (h : IsDt w G g l) (t : Int) (h1 : ¬ t < 1) (h2 : ¬ 2147483647 < t) {x : Tx} (hx : l.at_ t = some x) :
    Calls Try.prog 11 #[.pointer (some ⟨g, 0, none⟩), .int .i64 t] w (OutD w G g l (.int .i64 9)) := by
  obtain ⟨i, hi, ht, hn⟩ := idx_some hx
  have H := Lib.hid h
  obtain ⟨ho, v, V, r⟩ := h
  have K := Lib.hid (dtFind_some r ho.few t i x hi ht hn)
  have hi4 : (i : Int) ≤ 4 := by have := (List.getElem?_eq_some_iff.1 hi).1; have := ho.few; omega
  clear r ho hx hi ht hn
  go_enter Try.func11, Try.ntmps11
  go_wp2_with fail
  refine K.out.mono ?_
  rintro e w1 ⟨rfl, hb⟩
  have FIN := Lib.hid (H.out.below hb)
  have ST := Lib.hid (Step.ofBelow (F := G) hb)
  clear hb
  go_wp2
  go_ret
  exact ⟨G, rfl, FIN.out, ST.out⟩
set_option maxRecDepth 100000 in
set_option maxHeartbeats 8000000 in
theorem dtBegin_full (h : IsDt w G g l) (t : Int) (h1 : ¬ t < 1) (h2 : ¬ 2147483647 < t) (hx : l.at_ t = none) (hl : 4 ≤ l.length) :
    Calls Try.prog 11 #[.pointer (some ⟨g, 0, none⟩), .int .i64 t] w (OutD w G g l (.int .i64 5)) := by
  have H := Lib.hid h
  obtain ⟨ho, v, V, r⟩ := h
  have K := Lib.hid (dtFind_none r ho.few t (Tb.at_none hx))
  obtain ⟨a, cap, _, c0, _⟩ := r.look
  have hg := r.head.lt
  have hl' : (4 : Int) ≤ l.length := by omega
  have hl2 : (l.length : Int) ≤ 4 := by have := ho.few; omega
  clear r ho hx hl
  go_enter Try.func11, Try.ntmps11
  go_wp2_with fail
  refine K.out.mono ?_
  rintro e w1 ⟨rfl, hb⟩
  have c := (hb.cell (p := ⟨g, 0, none⟩) hg).trans c0
  have FIN := Lib.hid (H.out.below hb)
  have ST := Lib.hid (Step.ofBelow (F := G) hb)
  clear hb
  generalize l.length = n at *
  go_wp2
  go_ret
  exact ⟨G, rfl, FIN.out, ST.out⟩
set_option maxRecDepth 100000 in
set_option maxHeartbeats 8000000 in
theorem dtBegin_new (h : IsDt w G g l) (t : Int) (h1 : ¬ t < 1) (h2 : ¬ 2147483647 < t) (hx : l.at_ t = none) (hl : ¬ 4 ≤ l.length) :
    Calls Try.prog 11 #[.pointer (some ⟨g, 0, none⟩), .int .i64 t] w (OutD w G g (Tb.ins ⟨t, 0, 0, 0, []⟩ l) (.int .i64 0)) := by
  obtain ⟨i0, hi0, hz0, hz1, hz2⟩ := info_parts info_txn
  have HOK : Hid (Tb.ins ⟨t, 0, 0, 0, []⟩ l).Ok := by
    have := h.1.begin t
    unfold Tb.beginT at this
    rw [if_neg (by omega), hx] at this
    simp [hl] at this
    exact this
  obtain ⟨ho, v, V, r⟩ := h
  have K := Lib.hid (dtFind_none r ho.few t (Tb.at_none hx))
  have HNE := Lib.hid (Tb.at_none hx)
  obtain ⟨p, hp1, hp2, hp3, hp4⟩ := ins_at ⟨t, 0, 0, 0, []⟩ l
  have HP2 := Lib.hid hp2
  have HP3 := Lib.hid hp3
  have HP4 := Lib.hid hp4
  obtain ⟨a, cap, hv, c0, hcap, hcm, hrow⟩ := r.look
  have HROW := Lib.hid hrow
  have hg := r.head.lt
  have hl' : ¬ (4 : Int) ≤ l.length := by omega
  have HL : Hid (l.length < 4) := by unfold Hid; omega
  have HP1 := Lib.hid hp1
  have HONE := Lib.hid (txV_one r.mks)
  obtain ⟨y1, hs1, hy1⟩ := from_src (P := Try.prog) und_txns elem_txns size_txn r.row p hp1
  obtain ⟨_, y2, hs2, hf2, hy2⟩ := to_src (P := Try.prog) und_txns elem_txns size_txn r.row p hp1
  rw [hv] at hs1 hs2
  have HY1 := Lib.hid hy1
  have HY2 := Lib.hid hy2
  have HF2 := Lib.hid hf2
  have hpi : (p : Int) ≤ 4 := by omega
  have HFIN : Hid (∀ w5 v5, Below w.heap.size w w5 → w5.ownsRow 0 69 5 v5 (p + 1 + (l.length - p)) (((txV V l).take (p * 5) ++ [.int .i64 t, .int .i64 0, .int .i64 0, .int .i64 0, .slice none 0 0]) ++ (txV V l).drop (p * 5)) → (∀ k, v5.ownBlock = some k → w.heap.size ≤ k) →
      w5.frozen? ⟨g, 0, none⟩ = false ∧ IsDt (w5.setCell ⟨g, 0, none⟩ v5) (fun k => G k ∨ v5.ownBlock = some k) g (Tb.ins ⟨t, 0, 0, 0, []⟩ l) ∧ Step G (fun k => G k ∨ v5.ownBlock = some k) w (w5.setCell ⟨g, 0, none⟩ v5)) := fun w5 v5 hb5 hown5 hnew => by
    have hne : ∀ y ∈ l, y.txn ≠ t := Tb.at_none hx
    have htx : txV (fun s => if s = t then .slice none 0 0 else V s) (Tb.ins ⟨t, 0, 0, 0, []⟩ l) = ((txV V l).take (p * 5) ++ [.int .i64 t, .int .i64 0, .int .i64 0, .int .i64 0, .slice none 0 0]) ++ (txV V l).drop (p * 5) := by
      have hc : ∀ m : Tb, (∀ y ∈ m, y ∈ l) → txV (fun s => if s = t then .slice none 0 0 else V s) m = txV V m := fun m hm => txV_congr fun y hy => if_neg (hne y (hm y hy))
      rw [hp4, txV_append, txV_take V l p hp1, txV_drop V l p hp1, hc _ fun y hy => List.mem_of_mem_take hy, List.append_assoc]
      congr 1
      show (stCells ⟨t, 0, 0, 0, []⟩ (if t = t then .slice none 0 0 else V t)).toList ++ txV (fun s => if s = t then .slice none 0 0 else V s) (l.drop p) = _
      rw [if_pos rfl, hc _ fun y hy => List.mem_of_mem_drop hy]
      rfl
    have hlen : (Tb.ins ⟨t, 0, 0, 0, []⟩ l).length = p + 1 + (l.length - p) := by rw [Tb.len_ins]; omega
    have h1 := r.rerow (V' := fun s => if s = t then .slice none 0 0 else V s) (l' := Tb.ins ⟨t, 0, 0, 0, []⟩ l) hb5 (by rw [hlen, htx]; exact hown5) hnew fun y hy => by
      rcases Tb.mem_ins.1 hy with rfl | hy
      · exact .inl ⟨if_pos rfl, rfl⟩
      · exact .inr ⟨y, hy, rfl, rfl, if_neg (hne y hy)⟩
    exact ⟨(r.below hb5).head.frozen 0, ⟨HOK.out, _, _, h1.1⟩, h1.2⟩
  have HRW : Hid (∀ W, Below w.heap.size w W → W.ownsRow 0 69 5 v l.length (txV V l)) := fun W hW => (r.below hW).row
  clear r ho hx hl hp1 hp2 hp3 hp4 hrow hcm hy1 hy2 hf2 hv
  go_enter Try.func11, Try.ntmps11
  go_wp2_with fail
  refine K.out.mono ?_
  rintro e w1 ⟨rfl, hb1⟩
  have c1 := (hb1.cell (p := ⟨g, 0, none⟩) hg).trans c0
  have HB1 := Lib.hid hb1
  clear hb1 K
  go_wp2
  go_loopw [5] (fun j wr => ∃ k : Nat, k ≤ p ∧ j = .int .i64 k ∧ Below w.heap.size w wr) (fun j _ => (p - intOf j).toNat)
  case atStart => exact ⟨0, Nat.zero_le _, rfl, HB1.out⟩
  case round =>
    obtain ⟨k, hk, rfl, hB⟩ := hrel
    have cg := (hB.cell (p := ⟨g, 0, none⟩) hg).trans c0
    have HB := Lib.hid hB
    by_cases hkp : k < p
    · have hkl : k < l.length := by have := HP1.out; omega
      have hkli : (k : Int) < l.length := by omega
      obtain ⟨b, rfl, hb, _, hc⟩ := HROW.out k l[k] (List.getElem?_eq_getElem hkl)
      have d0 := (hB.cell (p := ⟨b, k * 5 + 0, none⟩) hb).trans (hc 0 (by omega))
      simp [stCells] at d0
      have hlt : l[k].txn < t := HP2.out k _ hkp (List.getElem?_eq_getElem hkl)
      have HKI := Lib.hid hkp
      clear hc hB
      generalize l[k].txn = y at *
      go_wp2
      exact ⟨⟨k + 1, HKI.out, by go_num, HB.out⟩, by simp [intOf]; have := HKI.out; omega⟩
    · obtain rfl : k = p := by omega
      have hpw : (k : Int) ≤ l.length := by have := HP1.out; omega
      have hwp : wr.heap.size ≥ w.heap.size := hB.size
      by_cases hkl : k < l.length
      · have hkli : (k : Int) < l.length := by omega
        obtain ⟨b, rfl, hb, _, hc⟩ := HROW.out k l[k] (List.getElem?_eq_getElem hkl)
        have d0 := (hB.cell (p := ⟨b, k * 5 + 0, none⟩) hb).trans (hc 0 (by omega))
        simp [stCells] at d0
        have hlt : ¬ l[k].txn < t := by have := HP3.out _ (List.getElem?_eq_getElem hkl); omega
        clear hc hB
        generalize l[k].txn = y at *
        have hLL := HL.out
        have hgw : g < wr.heap.size := by omega
        go_upto_region 10 with fail
        go_wp2_with (at_builtin; refine wpList_append_full rfl (.tmp 45) (.tmp 51) 27 rfl wr.heap.size 69 i0 (.agg #[.int .i64 0, .int .i64 0, .int .i64 0, .int .i64 0, .slice none 0 0]) 5 56 Try.underlying27 hi0 hz0 hz1 hz2 rfl (by decide) _ 0 [] rfl (own_void (Nat.le_refl _) (Blk.new wr _ _)) (.inr ⟨wr.heap.size, rfl⟩) y1 _ _ rfl (HY1.out _ (HRW.out _ (HB.out.alloc HB.out.size _)) HONE.out) (by simp only [maxLen]; omega) (by omega) (by simp) ?_)
        intro vr w3 hown3 hb3 _
        have hB3 : Below w.heap.size w w3 := (HB.out.alloc HB.out.size (.cells #[] 69)).trans (hb3.mono (by omega))
        have c3 := (hB3.cell (p := ⟨g, 0, none⟩) hg).trans c0
        have hgw3 : g < w3.heap.size := by have := hB3.size; omega
        have HB3 := Lib.hid hB3
        have HO3 := Lib.hid hown3
        have HDR : Hid (∀ u ∈ (txV V l).drop (k * 5), u.oneCell' = true) := fun u hu => HONE.out u (List.mem_of_mem_drop hu)
        have hw3 := hB3.size
        clear hown3 hb3 hB3
        go_wp2_with (at_builtin; refine wpList_append_fresh rfl (.tmp 60) (.tmp 64) 27 rfl 69 i0 (.agg #[.int .i64 0, .int .i64 0, .int .i64 0, .int .i64 0, .slice none 0 0]) 5 56 Try.underlying27 hi0 hz0 hz1 hz2 rfl (by decide) y2 k _ rfl (HY2.out _ (HRW.out _ (HB3.out.alloc HB3.out.size _)) HONE.out) HF2.out _ 1 [.int .i64 t, .int .i64 0, .int .i64 0, .int .i64 0, .slice none 0 0] rfl (src_blk (Blk.new _ _ _) rfl (by simp [Value.oneCell'])) (by decide) (by simp only [maxLen]; omega) (by omega) ?_)
        intro v4 w4 hown4 hb4
        have hB4 : Below w.heap.size w w4 := (HB3.out.alloc HB3.out.size (.cells #[.int .i64 t, .int .i64 0, .int .i64 0, .int .i64 0, .slice none 0 0] 69)).trans (hb4.mono (by omega))
        have HO4 : Hid (w4.ownsRow (w3.heap.size + 1) 69 5 v4 (k + 1) ((txV V l).take (k * 5) ++ [.int .i64 t, .int .i64 0, .int .i64 0, .int .i64 0, .slice none 0 0])) := by first | exact hown4 | simpa using hown4
        have HB4 := Lib.hid hB4
        have HR4 : Hid (w4.ownsRow wr.heap.size 69 5 vr (l.length - k) ((txV V l).drop (k * 5))) := own_below (own_below HO3.out ((Below.refl _ _).alloc (Nat.le_refl _) (.cells #[.int .i64 t, .int .i64 0, .int .i64 0, .int .i64 0, .slice none 0 0] 69))) (by simpa using hb4)
        have hsz4 : w3.heap.size + 1 ≤ w4.heap.size := by have := hb4.size; simpa using this
        clear hown4 hb4 hB4
        go_wp2_with (at_builtin; refine wpList_append_src rfl (.tmp 65) (.tmp 66) 27 rfl (w3.heap.size + 1) 69 i0 (.agg #[.int .i64 0, .int .i64 0, .int .i64 0, .int .i64 0, .slice none 0 0]) 5 56 Try.underlying27 hi0 hz0 hz1 hz2 rfl (by decide) _ _ _ rfl HO4.out _ _ _ rfl (src_own HR4.out HDR.out) (by simp only [maxLen]; omega) (by omega) hsz4 ?_)
        intro v5 w5 hown5 hgrow5 hat5
        have hB5 : Below w.heap.size w w5 := HB4.out.grown hgrow5 HB4.out.size (fun q hq => by have := (HO4.out.lt q hq).1; omega)
        have hnew5 : ∀ q, v5.ownBlock = some q → w.heap.size ≤ q := fun q hq => by
          have := (hown5.lt q hq).1
          omega
        obtain ⟨f5, F5, S5⟩ := HFIN.out w5 v5 hB5 (by have := own_base0 hown5; simpa using this) hnew5
        have c5 := (hB5.cell (p := ⟨g, 0, none⟩) hg).trans c0
        have HF5 := Lib.hid F5
        have HS5 := Lib.hid S5
        obtain ⟨qa, qc, hq⟩ := own_slice hown5
        clear F5 S5 hown5 hgrow5 hat5 hB5 hnew5
        subst hq
        go_wp2
        go_ret
        exact ⟨_, rfl, HF5.out, HS5.out⟩
      · have hkli : ¬ (k : Int) < l.length := by omega
        clear hB
        have hLL := HL.out
        have hgw : g < wr.heap.size := by omega
        go_upto_region 10 with fail
        go_wp2_with (at_builtin; refine wpList_append_full rfl (.tmp 45) (.tmp 51) 27 rfl wr.heap.size 69 i0 (.agg #[.int .i64 0, .int .i64 0, .int .i64 0, .int .i64 0, .slice none 0 0]) 5 56 Try.underlying27 hi0 hz0 hz1 hz2 rfl (by decide) _ 0 [] rfl (own_void (Nat.le_refl _) (Blk.new wr _ _)) (.inr ⟨wr.heap.size, rfl⟩) y1 _ _ rfl (HY1.out _ (HRW.out _ (HB.out.alloc HB.out.size _)) HONE.out) (by simp only [maxLen]; omega) (by omega) (by simp) ?_)
        intro vr w3 hown3 hb3 _
        have hB3 : Below w.heap.size w w3 := (HB.out.alloc HB.out.size (.cells #[] 69)).trans (hb3.mono (by omega))
        have c3 := (hB3.cell (p := ⟨g, 0, none⟩) hg).trans c0
        have hgw3 : g < w3.heap.size := by have := hB3.size; omega
        have HB3 := Lib.hid hB3
        have HO3 := Lib.hid hown3
        have HDR : Hid (∀ u ∈ (txV V l).drop (k * 5), u.oneCell' = true) := fun u hu => HONE.out u (List.mem_of_mem_drop hu)
        have hw3 := hB3.size
        clear hown3 hb3 hB3
        go_wp2_with (at_builtin; refine wpList_append_fresh rfl (.tmp 60) (.tmp 64) 27 rfl 69 i0 (.agg #[.int .i64 0, .int .i64 0, .int .i64 0, .int .i64 0, .slice none 0 0]) 5 56 Try.underlying27 hi0 hz0 hz1 hz2 rfl (by decide) y2 k _ rfl (HY2.out _ (HRW.out _ (HB3.out.alloc HB3.out.size _)) HONE.out) HF2.out _ 1 [.int .i64 t, .int .i64 0, .int .i64 0, .int .i64 0, .slice none 0 0] rfl (src_blk (Blk.new _ _ _) rfl (by simp [Value.oneCell'])) (by decide) (by simp only [maxLen]; omega) (by omega) ?_)
        intro v4 w4 hown4 hb4
        have hB4 : Below w.heap.size w w4 := (HB3.out.alloc HB3.out.size (.cells #[.int .i64 t, .int .i64 0, .int .i64 0, .int .i64 0, .slice none 0 0] 69)).trans (hb4.mono (by omega))
        have HO4 : Hid (w4.ownsRow (w3.heap.size + 1) 69 5 v4 (k + 1) ((txV V l).take (k * 5) ++ [.int .i64 t, .int .i64 0, .int .i64 0, .int .i64 0, .slice none 0 0])) := by first | exact hown4 | simpa using hown4
        have HB4 := Lib.hid hB4
        have HR4 : Hid (w4.ownsRow wr.heap.size 69 5 vr (l.length - k) ((txV V l).drop (k * 5))) := own_below (own_below HO3.out ((Below.refl _ _).alloc (Nat.le_refl _) (.cells #[.int .i64 t, .int .i64 0, .int .i64 0, .int .i64 0, .slice none 0 0] 69))) (by simpa using hb4)
        have hsz4 : w3.heap.size + 1 ≤ w4.heap.size := by have := hb4.size; simpa using this
        clear hown4 hb4 hB4
        go_wp2_with (at_builtin; refine wpList_append_src rfl (.tmp 65) (.tmp 66) 27 rfl (w3.heap.size + 1) 69 i0 (.agg #[.int .i64 0, .int .i64 0, .int .i64 0, .int .i64 0, .slice none 0 0]) 5 56 Try.underlying27 hi0 hz0 hz1 hz2 rfl (by decide) _ _ _ rfl HO4.out _ _ _ rfl (src_own HR4.out HDR.out) (by simp only [maxLen]; omega) (by omega) hsz4 ?_)
        intro v5 w5 hown5 hgrow5 hat5
        have hB5 : Below w.heap.size w w5 := HB4.out.grown hgrow5 HB4.out.size (fun q hq => by have := (HO4.out.lt q hq).1; omega)
        have hnew5 : ∀ q, v5.ownBlock = some q → w.heap.size ≤ q := fun q hq => by
          have := (hown5.lt q hq).1
          omega
        obtain ⟨f5, F5, S5⟩ := HFIN.out w5 v5 hB5 (by have := own_base0 hown5; simpa using this) hnew5
        have c5 := (hB5.cell (p := ⟨g, 0, none⟩) hg).trans c0
        have HF5 := Lib.hid F5
        have HS5 := Lib.hid S5
        obtain ⟨qa, qc, hq⟩ := own_slice hown5
        clear F5 S5 hown5 hgrow5 hat5 hB5 hnew5
        subst hq
        go_wp2
        go_ret
        exact ⟨_, rfl, HF5.out, HS5.out⟩
theorem dtBegin_any (h : IsDt w G g l) (t : Int) :
    Calls Try.prog 11 #[.pointer (some ⟨g, 0, none⟩), .int .i64 t] w (OutD w G g (l.beginT t).1 (.int .i64 (l.beginT t).2)) := by
  unfold Tb.beginT
  by_cases hb : t < 1 ∨ 2147483647 < t
  · rw [if_pos hb]
    exact dtBegin_bad h t hb
  · rw [if_neg hb]
    cases hx : l.at_ t with
    | some x =>
      simp only [Option.isSome_some, if_true]
      exact dtBegin_once h t (by omega) (by omega) hx
    | none =>
      simp only [Option.isSome_none, Bool.false_eq_true, if_false]
      by_cases hl : 4 ≤ l.length
      · rw [if_pos hl]
        exact dtBegin_full h t (by omega) (by omega) hx hl
      · rw [if_neg hl]
        exact dtBegin_new h t (by omega) (by omega) hx hl
end
end Go.Proofs.Ytfbghdkbimnnbaa
