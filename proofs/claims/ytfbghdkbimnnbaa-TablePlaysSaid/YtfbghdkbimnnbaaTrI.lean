/- careenref10: End; nil calls are none. -/
import Derived.Test.YtfbghdkbimnnbaaTrH
import Derived.Test.YtfbghdkbimnnbaaRegionF
namespace Go.Proofs.Ytfbghdkbimnnbaa
open Go.RowKit

section
variable {w : World} {G : Foot} {g : Nat} {l : Tb}
set_option maxRecDepth 100000 in
set_option maxHeartbeats 8000000 in
theorem dtEnd_none (h : IsDt w G g l) (t : Int) (hx : l.at_ t = none) :
    Calls Try.prog 21 #[.pointer (some ⟨g, 0, none⟩), .int .i64 t] w (OutD w G g l (.int .i64 7)) := by
  have H := Lib.hid h
  obtain ⟨ho, v, V, r⟩ := h
  have K := Lib.hid (dtFind_none r ho.few t (Tb.at_none hx))
  clear r ho hx
  go_enter Try.func21, Try.ntmps21
  go_wp2_with fail
  refine K.out.mono ?_
  rintro e w1 ⟨rfl, hb⟩
  have FIN := Lib.hid (H.out.below hb)
  have ST := Lib.hid (Step.ofBelow (F := G) hb)
  clear hb
  go_wp2
  go_ret
  exact ⟨G, rfl, FIN.out, ST.out⟩
set_option maxRecDepth 100000 in
set_option maxHeartbeats 8000000 in
theorem dtEnd_some (h : IsDt w G g l) (t : Int) {x : Tx} (hx : l.at_ t = some x) :
    Calls Try.prog 21 #[.pointer (some ⟨g, 0, none⟩), .int .i64 t] w (OutD w G g (l.del t) (.int .i64 0)) := by
  obtain ⟨i0, hi0, hz0, hz1, hz2⟩ := info_parts info_txn
  have HOK : Hid (l.del t).Ok := by
    have := h.1.end_ t
    unfold Tb.endT at this
    rw [hx] at this
    exact this
  obtain ⟨i, hi, ht, hn⟩ := idx_some hx
  obtain ⟨ho, v, V, r⟩ := h
  have K := Lib.hid (dtFind_some r ho.few t i x hi ht hn)
  have hdel := del_at ho.rise hi
  rw [ht] at hdel
  have hil := (List.getElem?_eq_some_iff.1 hi).1
  obtain ⟨a, cap, hv, c0, hcap, hcm, _⟩ := r.look
  have hg := r.head.lt
  have HL : Hid (l.length ≤ 4) := ho.few
  have HIL := Lib.hid hil
  have hi4 : (i : Int) < 4 := by have := ho.few; omega
  have HONE := Lib.hid (txV_one r.mks)
  obtain ⟨y1, hs1, hy1⟩ := from_src (P := Try.prog) und_txns elem_txns size_txn r.row (i + 1) (by omega)
  obtain ⟨⟨y2, hs2, hy2⟩, _⟩ := to_src (P := Try.prog) und_txns elem_txns size_txn r.row i (by omega)
  rw [hv] at hs1 hs2
  have hi1 : ((i + 1 : Nat) : Int) = (i : Int) + 1 := by omega
  rw [hi1] at hs1
  have hwi : IntKind.i64.wrap ((i : Int) + 1) = (i : Int) + 1 := IntWalk.i64_in _ (by omega)
  have HY1 := Lib.hid hy1
  have HY2 := Lib.hid hy2
  have HFIN : Hid (∀ w5 v5, Below w.heap.size w w5 → w5.ownsRow 0 69 5 v5 (i + (l.length - (i + 1))) ((txV V l).take (i * 5) ++ (txV V l).drop ((i + 1) * 5)) → (∀ k, v5.ownBlock = some k → w.heap.size ≤ k) →
      w5.frozen? ⟨g, 0, none⟩ = false ∧ IsDt (w5.setCell ⟨g, 0, none⟩ v5) (fun k => G k ∨ v5.ownBlock = some k) g (l.del t) ∧ Step G (fun k => G k ∨ v5.ownBlock = some k) w (w5.setCell ⟨g, 0, none⟩ v5)) := fun w5 v5 hb5 hown5 hnew => by
    have htx : txV V (l.del t) = (txV V l).take (i * 5) ++ (txV V l).drop ((i + 1) * 5) := by
      rw [hdel, txV_append, txV_take V l i (by omega), txV_drop V l (i + 1) (by omega)]
    have hlen : (l.del t).length = i + (l.length - (i + 1)) := by rw [hdel, List.length_append, List.length_take, List.length_drop]; omega
    have h1 := r.rerow (V' := V) (l' := l.del t) hb5 (by rw [hlen, htx]; exact hown5) hnew fun y hy => .inr ⟨y, (List.mem_filter.1 hy).1, rfl, rfl, rfl⟩
    exact ⟨(r.below hb5).head.frozen 0, ⟨HOK.out, _, _, h1.1⟩, h1.2⟩
  have HRW : Hid (∀ W, Below w.heap.size w W → W.ownsRow 0 69 5 v l.length (txV V l) ∧ W.cell? ⟨g, 0, none⟩ = some (.slice a l.length cap)) := fun W hW => ⟨(r.below hW).row, (hW.cell (p := ⟨g, 0, none⟩) hg).trans c0⟩
  have HDR : Hid (∀ u ∈ (txV V l).drop ((i + 1) * 5), u.oneCell' = true) := fun u hu => HONE.out u (List.mem_of_mem_drop hu)
  clear r ho hx hi ht hn hdel hil hcm hy1 hy2 hi1 hv
  generalize l.del t = l2 at *
  go_enter Try.func21, Try.ntmps21
  go_wp2_with fail
  refine K.out.mono ?_
  rintro e w1 ⟨rfl, hb1⟩
  have HB1 := Lib.hid hb1
  have hB1 : w.heap.size ≤ w1.heap.size := hb1.size
  clear hb1 K
  go_upto_region 4 with fail
  refine' wp_region_free [0] 16 (.is (.pointer (some ⟨g, 0, none⟩)) :: .slice w1.heap.size 0 69 #[] :: .is _ :: .is _ :: .is _ :: .is _ :: .is _ :: .is _ :: .own w1.heap.size 69 5 i ((txV V l).take (i * 5)) :: .is _ :: .is _ :: .is _ :: .is _ :: .is _ :: .is _ :: .is _ :: []) (by kernel_rfl) (by kernel_rfl) (by kernel_rfl) (by kernel_rfl) (by kernel_rfl) rfl ⟨rfl, trivial⟩ (fun _ _ _ _ _ h => h) ?main
  case main =>
    iterate 1
      refine obs_is (fun w8 hE2 _ => ?_) ?_
      · go_wp2_with fail
        exact post_is (Below.refl _ _)
      simp only [Act.put, List.setIfInBounds_toArray, List.set_cons_zero, List.set_cons_succ]
    refine obs_slice (fun w8 hE2 _ => ?_) (fun q1 => ?_)
    · go_wp2
      exact ⟨_, rfl, ⟨w8.heap.size, hE2.size, rfl, Blk.new _ _ _⟩, (Below.refl _ _).alloc (Nat.le_refl _) _⟩
    simp only [Act.put, List.setIfInBounds_toArray, List.set_cons_zero, List.set_cons_succ]
    iterate 6
      refine obs_is (fun w8 hE2 _ => ?_) ?_
      · obtain ⟨_, y⟩ := HRW.out w8 (below2 HB1.out ((Below.refl w1.heap.size w1).drew.trans hE2))
        go_wp2_with fail
        exact post_is (Below.refl _ _)
      simp only [Act.put, List.setIfInBounds_toArray, List.set_cons_zero, List.set_cons_succ]
    refine obs_own (fun w8 hE2 hkn => ?_) (fun q8 => ?_)
    · obtain ⟨g5, hg5, hq5, hb5⟩ : ∃ g5, w1.heap.size ≤ g5 ∧ q1 = .slice (some ⟨g5, 0, none⟩) 0 0 ∧ Blk w8 g5 69 #[] := hkn _ (List.mem_cons_self) (by kernel_rfl)
      have hB8 := hE2.size
      have hLL := HL.out
      have hIL := HIL.out
      obtain ⟨hrw, _⟩ := HRW.out w8 (below2 HB1.out ((Below.refl w1.heap.size w1).drew.trans hE2))
      refine wpList_append_full rfl (.tmp 12) (.tmp 18) 27 rfl w1.heap.size 69 i0 (.agg #[.int .i64 0, .int .i64 0, .int .i64 0, .int .i64 0, .slice none 0 0]) 5 56 Try.underlying27 hi0 hz0 hz1 hz2 rfl (by decide) _ 0 [] rfl (by rw [show Act.eval _ (.tmp 12) = q1 from rfl, hq5]; exact own_void hg5 hb5) (.inr ⟨g5, by rw [show Act.eval _ (.tmp 12) = q1 from rfl, hq5]⟩) y2 i _ rfl (HY2.out _ hrw HONE.out) (by simp only [maxLen]; omega) (by omega) hB8 (fun v' w9 hown' hb9 _ => ⟨v', rfl, by rw [Nat.zero_add] at hown'; exact hown', hb9⟩)
    simp only [Act.put, List.setIfInBounds_toArray, List.set_cons_zero, List.set_cons_succ]
    iterate 7
      refine obs_is (fun w8 hE2 _ => ?_) ?_
      · obtain ⟨_, y⟩ := HRW.out w8 (below2 HB1.out ((Below.refl w1.heap.size w1).drew.trans hE2))
        go_wp2_with fail
        exact post_is (Below.refl _ _)
      simp only [Act.put, List.setIfInBounds_toArray, List.set_cons_zero, List.set_cons_succ]
    refine obs_end fun w4 hE4 hkn => ?_
    have HO4 : Hid (w4.ownsRow w1.heap.size 69 5 q8 i ((txV V l).take (i * 5))) := hkn _ (List.mem_cons_self)
    have hB4 : Below w.heap.size w w4 := below2 HB1.out ((Below.refl w1.heap.size w1).drew.trans hE4)
    have HB4 := Lib.hid hB4
    have hsz4 : w1.heap.size ≤ w4.heap.size := hE4.size
    have hLL := HL.out
    have hIL := HIL.out
    have HS1 := Lib.hid (HY1.out _ (HRW.out w4 hB4).1 HONE.out)
    clear hkn hE4 hB4
    change wpList _ _ _ _ _ _
    go_wp2_with (at_builtin; refine wpList_append_src rfl (.tmp 19) (.tmp 26) 27 rfl w1.heap.size 69 i0 (.agg #[.int .i64 0, .int .i64 0, .int .i64 0, .int .i64 0, .slice none 0 0]) 5 56 Try.underlying27 hi0 hz0 hz1 hz2 rfl (by decide) _ _ _ rfl HO4.out y1 _ _ rfl HS1.out (by simp only [maxLen]; omega) (by omega) hsz4 ?_)
    intro v5 w5 hown5 hgrow5 hat5
    have hB5 : Below w.heap.size w w5 := HB4.out.grown hgrow5 HB4.out.size (fun q hq => by have := (HO4.out.lt q hq).1; omega)
    have hnew5 : ∀ q, v5.ownBlock = some q → w.heap.size ≤ q := fun q hq => by
      have := (hown5.lt q hq).1
      omega
    obtain ⟨f5, F5, S5⟩ := HFIN.out w5 v5 hB5 (own_base0 hown5) hnew5
    have c5 := (hB5.cell (p := ⟨g, 0, none⟩) hg).trans c0
    have HF5 := Lib.hid F5
    have HS5 := Lib.hid S5
    obtain ⟨qa, qc, hq⟩ := own_slice hown5
    clear F5 S5 hown5 hgrow5 hat5 hB5 hnew5
    subst hq
    go_wp2
    go_ret
    exact ⟨_, rfl, HF5.out, HS5.out⟩
theorem dtEnd_any (h : IsDt w G g l) (t : Int) :
    Calls Try.prog 21 #[.pointer (some ⟨g, 0, none⟩), .int .i64 t] w (OutD w G g (l.endT t).1 (.int .i64 (l.endT t).2)) := by
  unfold Tb.endT
  cases hx : l.at_ t with
  | none => exact dtEnd_none h t hx
  | some x => exact dtEnd_some h t hx
end
end Go.Proofs.Ytfbghdkbimnnbaa
