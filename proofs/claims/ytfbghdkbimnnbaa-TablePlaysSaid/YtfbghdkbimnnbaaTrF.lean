/- careenref10: Mark. -/
import Derived.Test.YtfbghdkbimnnbaaTrE
namespace Go.Proofs.Ytfbghdkbimnnbaa
open Go.RowKit

theorem info_rmark : (Try.prog.toTables.info? 75).map (fun i => (i.zero, i.size, i.bytes)) = some (some (.agg #[.int .i64 0, .int .i64 0]), 2, 16) := by kernel_rfl
theorem own_base0 {w : World} {b0 e size n : Nat} {v : Value} {xs : List Value} (h : w.ownsRow b0 e size v n xs) : w.ownsRow 0 e size v n xs := by
  obtain ⟨hl, h | ⟨g, cap, cur, rfl, hb, h⟩⟩ := h
  · exact ⟨hl, .inl h⟩
  · exact ⟨hl, .inr ⟨g, cap, cur, rfl, Nat.zero_le _, h⟩⟩
theorem own_void {w : World} {B g : Nat} {e : TypeId} {size : Nat} (hB : B ≤ g) (h : Blk w g e #[]) : w.ownsRow B e size (.slice (some ⟨g, 0, none⟩) 0 0) 0 [] :=
  ⟨by simp, .inr ⟨g, 0, #[], rfl, hB, h, Nat.le_refl _, by decide, by simp, by simp⟩⟩
theorem mkV_one (l : List (Int × Int)) : ∀ u ∈ mkV l, u.oneCell' = true := by
  intro u hu
  unfold mkV at hu
  obtain ⟨x, _, hx⟩ := List.mem_flatMap.1 hu
  simp at hx
  rcases hx with rfl | rfl <;> rfl
/-- A row of one's own as a source. -/
theorem src_own {w : World} {B : Nat} {e : TypeId} {size n : Nat} {v : Value} {xs : List Value} (h : w.ownsRow B e size v n xs) (h1 : ∀ u ∈ xs, u.oneCell' = true) : Src w size v n xs := by
  refine ⟨h.1, h1, ?_⟩
  rcases own_any h with ⟨rfl, h0, _⟩ | ⟨g, cap, rfl, _⟩
  · exact .inl ⟨rfl, h0⟩
  · exact .inr ⟨_, cap, rfl, h.cells (g := g) rfl⟩
theorem src_blk {w : World} {g : Nat} {t : TypeId} {cs : Array Value} {n size : Nat} (h : Blk w g t cs) (hl : cs.size = n * size) (h1 : ∀ u ∈ cs.toList, u.oneCell' = true) : Src w size (.slice (some ⟨g, 0, none⟩) n n) n cs.toList :=
  ⟨by rw [Array.length_toList, hl], h1, .inr ⟨_, _, rfl, World.news_of_block h⟩⟩
section
variable {w : World} {G : Foot} {g : Nat} {l : Tb}
set_option maxRecDepth 100000 in
set_option maxHeartbeats 8000000 in
theorem dtMark_none (h : IsDt w G g l) (t k : Int) (hx : l.at_ t = none) :
    Calls Try.prog 17 #[.pointer (some ⟨g, 0, none⟩), .int .i64 t, .int .i64 k] w (OutD w G g l (.tuple #[.int .i64 0, .int .i64 7])) := by
  have H := Lib.hid h
  obtain ⟨ho, v, V, r⟩ := h
  have K := Lib.hid (dtFind_none r ho.few t (Tb.at_none hx))
  clear r ho hx
  go_enter Try.func17, Try.ntmps17
  go_wp2_with fail
  refine K.out.mono ?_
  rintro e w1 ⟨rfl, hb⟩
  have FIN := Lib.hid (H.out.below hb)
  have ST := Lib.hid (Step.ofBelow (F := G) hb)
  clear hb
  go_wp2
  go_ret2
  exact ⟨G, rfl, FIN.out, ST.out⟩
set_option maxRecDepth 100000 in
set_option maxHeartbeats 8000000 in
theorem dtMark_bad (h : IsDt w G g l) (t k : Int) {x : Tx} (hx : l.at_ t = some x) (hk : k ≠ x.left) :
    Calls Try.prog 17 #[.pointer (some ⟨g, 0, none⟩), .int .i64 t, .int .i64 k] w (OutD w G g l (.tuple #[.int .i64 0, .int .i64 1])) := by
  obtain ⟨i, hi, ht, hn⟩ := idx_some hx
  have H := Lib.hid h
  obtain ⟨ho, v, V, r⟩ := h
  have K := Lib.hid (dtFind_some r ho.few t i x hi ht hn)
  have HSP : Hid (∀ W, Below w.heap.size w W → ∃ b cap, DtAt W g V l x.txn x i b cap) := fun W hW => by
    obtain ⟨b, cap, h1, h2, h3⟩ := (r.below hW).spot ho.few hi
    exact ⟨b, cap, h3⟩
  have hl4 : (l.length : Int) ≤ 4 := by have := ho.few; omega
  have hi4 : (i : Int) < l.length := by have := (List.getElem?_eq_some_iff.1 hi).1; omega
  have hk' : (k != x.left) = true := by simpa using hk
  clear r ho hx hk hi ht hn
  go_enter Try.func17, Try.ntmps17
  go_wp2_with fail
  refine K.out.mono ?_
  rintro e w1 ⟨rfl, hb⟩
  obtain ⟨b, cap, A⟩ := HSP.out w1 hb
  have c := A.c
  have c3 := A.c3
  have hcap := A.hcap
  have FIN := Lib.hid (H.out.below hb)
  have ST := Lib.hid (Step.ofBelow (F := G) hb)
  clear hb A
  generalize x.left = y at *
  generalize l.length = n at *
  go_wp2
  go_ret2
  exact ⟨G, rfl, FIN.out, ST.out⟩
set_option maxRecDepth 100000 in
set_option maxHeartbeats 8000000 in
theorem dtMark_full (h : IsDt w G g l) (t : Int) {x : Tx} (hx : l.at_ t = some x) (hl : 4 ≤ x.marks.length) :
    Calls Try.prog 17 #[.pointer (some ⟨g, 0, none⟩), .int .i64 t, .int .i64 x.left] w (OutD w G g l (.tuple #[.int .i64 0, .int .i64 5])) := by
  obtain ⟨i, hi, ht, hn⟩ := idx_some hx
  have H := Lib.hid h
  obtain ⟨ho, v, V, r⟩ := h
  have K := Lib.hid (dtFind_some r ho.few t i x hi ht hn)
  have HSP : Hid (∀ W, Below w.heap.size w W → ∃ b cap, DtAt W g V l x.txn x i b cap) := fun W hW => by
    obtain ⟨b, cap, h1, h2, h3⟩ := (r.below hW).spot ho.few hi
    exact ⟨b, cap, h3⟩
  have hl4 : (l.length : Int) ≤ 4 := by have := ho.few; omega
  have hi4 : (i : Int) < l.length := by have := (List.getElem?_eq_some_iff.1 hi).1; omega
  obtain ⟨va, vc, hvs⟩ := own_slice (r.mks x (List.mem_of_getElem? hi))
  have hm4 := ho.marks x (Tb.at_some hx).1
  have hl' : (4 : Int) ≤ x.marks.length := by omega
  have hl2 : (x.marks.length : Int) ≤ 4 := by omega
  clear r ho hx hl hi ht hn hm4
  go_enter Try.func17, Try.ntmps17
  go_wp2_with fail
  refine K.out.mono ?_
  rintro e w1 ⟨rfl, hb⟩
  obtain ⟨b, cap, A⟩ := HSP.out w1 hb
  have c := A.c
  have c3 := A.c3
  have c4 := A.c4
  rw [hvs] at c4
  have hcap := A.hcap
  have FIN := Lib.hid (H.out.below hb)
  have ST := Lib.hid (Step.ofBelow (F := G) hb)
  clear hb A hvs
  generalize x.left = y at *
  generalize x.marks.length = m at *
  generalize l.length = n at *
  go_wp2
  go_ret2
  exact ⟨G, rfl, FIN.out, ST.out⟩
set_option maxRecDepth 100000 in
set_option maxHeartbeats 8000000 in
theorem dtMark_new (h : IsDt w G g l) (t : Int) {x : Tx} (hx : l.at_ t = some x) (hl : ¬ 4 ≤ x.marks.length) :
    Calls Try.prog 17 #[.pointer (some ⟨g, 0, none⟩), .int .i64 t, .int .i64 x.left] w (OutD w G g (l.set { x with marks := x.marks ++ [(x.last, x.left)] }) (.tuple #[.int .i64 x.marks.length, .int .i64 0])) := by
  obtain ⟨i0, hi0, hz0, hz1, hz2⟩ := info_parts info_rmark
  have HOK : Hid (l.set { x with marks := x.marks ++ [(x.last, x.left)] }).Ok := by
    have := h.1.mark t x.left
    unfold Tb.markT at this
    rw [hx] at this
    simp [hl] at this
    exact this
  obtain ⟨i, hi, ht, hn⟩ := idx_some hx
  obtain ⟨ho, v, V, r⟩ := h
  have K := Lib.hid (dtFind_some r ho.few t i x hi ht hn)
  have hxl := List.mem_of_getElem? hi
  obtain ⟨b, cap, hvb, hv, A⟩ := r.spot ho.few hi
  have HM := Lib.hid (r.mks x hxl)
  obtain ⟨va, vc, hvs⟩ := own_slice HM.out
  have hl4 : (l.length : Int) ≤ 4 := by have := ho.few; omega
  have hi4 : (i : Int) < l.length := by have := A.len; omega
  have HL : Hid (x.marks.length < 4) := by unfold Hid; omega
  have hl' : ¬ (4 : Int) ≤ x.marks.length := by omega
  have hm2 : (x.marks.length : Int) < 4 := by omega
  have hcap := A.hcap
  have hrise := ho.rise
  have HALL : Hid (∀ W, Below w.heap.size w W → W.cell? ⟨g, 0, none⟩ = some (.slice (some ⟨b, 0, none⟩) l.length cap) ∧ W.cell? ⟨b, i * 5 + 2, none⟩ = some (.int .i64 x.last) ∧ W.cell? ⟨b, i * 5 + 3, none⟩ = some (.int .i64 x.left) ∧ W.cell? ⟨b, i * 5 + 4, none⟩ = some (V x.txn) ∧ W.frozen? ⟨b, i * 5 + 4, none⟩ = false ∧ W.ownsRow 0 75 2 (V x.txn) x.marks.length (mkV x.marks) ∧
      ∀ vm, W.ownsRow 0 75 2 vm (x.marks.length + 1) (mkV (x.marks ++ [(x.last, x.left)])) → (∀ k, vm.ownBlock = some k → w.heap.size ≤ k) →
        (IsDt (W.setCell ⟨b, i * 5 + 4, none⟩ vm) (fun q => G q ∨ vm.ownBlock = some q) g (l.set { x with marks := x.marks ++ [(x.last, x.left)] }) ∧ Step G (fun q => G q ∨ vm.ownBlock = some q) w (W.setCell ⟨b, i * 5 + 4, none⟩ vm)) ∧
        (W.setCell ⟨b, i * 5 + 4, none⟩ vm).cell? ⟨g, 0, none⟩ = some (.slice (some ⟨b, 0, none⟩) l.length cap) ∧ (W.setCell ⟨b, i * 5 + 4, none⟩ vm).cell? ⟨b, i * 5 + 4, none⟩ = some vm) := fun W hW => by
    have rW := r.below hW
    have hMW := rW.mks x hxl
    have hrowW := rW.row
    rw [hv] at hrowW
    obtain ⟨b', cap', hvb', hv', A'⟩ := rW.spot ho.few hi
    have hbb : b' = b := by rw [hvb] at hvb'; exact (Option.some.inj hvb').symm
    subst hbb
    have hcc : cap' = cap := by rw [hv] at hv'; cases hv'; rfl
    subst hcc
    refine ⟨A'.c, A'.c2, A'.c3, A'.c4, hrowW.frozenAt _, hMW, fun vm hown hnew => ?_⟩
    have h1 := r.remark hrise hi hv (x.marks ++ [(x.last, x.left)]) vm hW (by rw [List.length_append]; exact hown) (fun q hq => .inr (hnew q hq))
    refine ⟨⟨⟨HOK.out, _, _, h1.1⟩, h1.2⟩, ?_, ?_⟩
    · exact (World.cell?_of_block (heap_setCell_other W ⟨b', i * 5 + 4, none⟩ g _ (fun e => own_blk rW.row rW.head (by decide) (by rw [hv, show g = b' from e]; rfl)))).trans A'.c
    · have h2 := (hrowW.stored (i * 5 + 4) vm).1
      rw [h2.cellAt (i * 5 + 4) (by have := A'.len; omega), List.getElem?_set, if_pos rfl, if_pos (by rw [txV_len]; have := A'.len; omega)]
  have HSN := Lib.hid (mkV_snoc x.marks x.last x.left)
  have HONE := Lib.hid (mkV_one x.marks)
  clear r hx hi ht hn A hv hvb hxl hrise ho HOK hl HM
  generalize V x.txn = vm0 at *
  subst hvs
  generalize mkV x.marks = xs at *
  generalize mkV (x.marks ++ [(x.last, x.left)]) = xs2 at *
  generalize l.set { x with marks := x.marks ++ [(x.last, x.left)] } = l2 at *
  obtain ⟨t0, b1, b2, d, mm⟩ := x
  simp only at *
  generalize mm.length = m at *
  generalize l.length = n at *
  go_enter Try.func17, Try.ntmps17
  go_wp2_with fail
  refine K.out.mono ?_
  rintro e w1 ⟨rfl, hb⟩
  have HB := Lib.hid hb
  obtain ⟨c, c2, c3, c4, _⟩ := HALL.out w1 hb
  clear hb K
  go_upto_region 8 with fail
  clear c c2 c3 c4
  have hwn : IntKind.i64.wrap ((m : Int) + 1 - 1) = (m : Int) := by rw [IntWalk.i64_in _ (by omega)]; omega
  have hB1 : w.heap.size ≤ w1.heap.size := HB.out.size
  refine' wp_region_made 30 27 (.is _ :: .is _ :: .is _ :: .is _ :: .is _ :: .slice w1.heap.size 0 75 #[] :: .is _ :: .is _ :: .is _ :: .is _ :: .is _ :: .is _ :: .is _ :: .is _ :: .own w1.heap.size 75 2 m xs :: .is _ :: .is _ :: .is _ :: .is _ :: .is _ :: .is _ :: .is _ :: .is _ :: .is _ :: .is _ :: .is _ :: .slice w1.heap.size 1 75 #[.int .i64 b2, .int .i64 d] :: .own w1.heap.size 75 2 (m + 1) xs2 :: .is _ :: .is _ :: []) (by kernel_rfl) (by kernel_rfl) (by kernel_rfl) (by kernel_rfl) rfl ?main
  case main =>
    iterate 5
      refine obsX_is (fun w8 hE2 _ => ?_) ?_
      · have hB8 := hE2.size
        obtain ⟨y, y2, y3, y4, _⟩ := HALL.out w8 (HB.out.trans (((Below.refl w1.heap.size w1).drew.trans hE2).mono hB1))
        go_wp2_with fail
        exact postX_is (Below.refl _ _) hB8
      simp only [Act.put, List.setIfInBounds_toArray, List.set_cons_zero, List.set_cons_succ]
    refine obsX_slice (fun w8 hE2 _ => ?_) (fun q5 => ?_)
    · go_wp2
      exact ⟨_, rfl, ⟨w8.heap.size, hE2.size, rfl, Blk.new _ _ _⟩, (Below.refl _ _).alloc (Nat.le_refl _) _⟩
    simp only [Act.put, List.setIfInBounds_toArray, List.set_cons_zero, List.set_cons_succ]
    iterate 8
      refine obsX_is (fun w8 hE2 _ => ?_) ?_
      · have hB8 := hE2.size
        obtain ⟨y, y2, y3, y4, _⟩ := HALL.out w8 (HB.out.trans (((Below.refl w1.heap.size w1).drew.trans hE2).mono hB1))
        go_wp2_with fail
        exact postX_is (Below.refl _ _) hB8
      simp only [Act.put, List.setIfInBounds_toArray, List.set_cons_zero, List.set_cons_succ]
    refine obsX_own (fun w8 hE2 hkn => ?_) (fun q14 => ?_)
    · obtain ⟨g5, hg5, hq5, hb5⟩ : ∃ g5, w1.heap.size ≤ g5 ∧ q5 = .slice (some ⟨g5, 0, none⟩) 0 0 ∧ Blk w8 g5 75 #[] := hkn _ (List.mem_cons_self) (by kernel_rfl) (by kernel_rfl)
      have hB8 := hE2.size
      obtain ⟨_, _, _, _, _, hMW, _⟩ := HALL.out w8 (HB.out.trans (((Below.refl w1.heap.size w1).drew.trans hE2).mono hB1))
      have hLL := HL.out
      refine wpList_append_full rfl (.tmp 39) (.tmp 47) 67 rfl w1.heap.size 75 i0 (.agg #[.int .i64 0, .int .i64 0]) 2 16 Try.underlying67 hi0 hz0 hz1 hz2 rfl (by decide) _ 0 [] rfl (by rw [show Act.eval _ (.tmp 39) = q5 from rfl, hq5]; exact own_void hg5 hb5) (.inr ⟨g5, by rw [show Act.eval _ (.tmp 39) = q5 from rfl, hq5]⟩) _ m xs rfl (src_own hMW HONE.out) (by simp only [maxLen]; omega) (by omega) hB8 (fun v' w9 hown' hb9 _ => ⟨v', rfl, by rw [Nat.zero_add] at hown'; exact hown', hb9⟩)
    simp only [Act.put, List.setIfInBounds_toArray, List.set_cons_zero, List.set_cons_succ]
    iterate 11
      refine obsX_is (fun w8 hE2 _ => ?_) ?_
      · have hB8 := hE2.size
        obtain ⟨y, y2, y3, y4, _⟩ := HALL.out w8 (HB.out.trans (((Below.refl w1.heap.size w1).drew.trans hE2).mono hB1))
        go_wp2_with fail
        exact postX_is (Below.refl _ _) hB8
      simp only [Act.put, List.setIfInBounds_toArray, List.set_cons_zero, List.set_cons_succ]
    refine obsX_slice (fun w8 hE2 _ => ?_) (fun q26 => ?_)
    · go_wp2
      exact ⟨_, rfl, ⟨w8.heap.size, hE2.size, rfl, Blk.new _ _ _⟩, (Below.refl _ _).alloc (Nat.le_refl _) _⟩
    simp only [Act.put, List.setIfInBounds_toArray, List.set_cons_zero, List.set_cons_succ]
    refine obsX_own (fun w8 hE2 hkn => ?_) (fun q27 => ?_)
    · obtain ⟨g26, hg26, hq26, hb26⟩ : ∃ g26, w1.heap.size ≤ g26 ∧ q26 = .slice (some ⟨g26, 0, none⟩) 1 1 ∧ Blk w8 g26 75 #[.int .i64 b2, .int .i64 d] := hkn _ (List.mem_cons_self) (by kernel_rfl) (by kernel_rfl)
      have hown14 : w8.ownsRow w1.heap.size 75 2 q14 m xs := hkn _ (List.mem_cons_of_mem _ List.mem_cons_self) (by kernel_rfl) (by kernel_rfl)
      have hB8 := hE2.size
      have hLL := HL.out
      refine wpList_append_src rfl (.tmp 48) (.tmp 60) 67 rfl w1.heap.size 75 i0 (.agg #[.int .i64 0, .int .i64 0]) 2 16 Try.underlying67 hi0 hz0 hz1 hz2 rfl (by decide) q14 m xs rfl hown14 _ 1 [.int .i64 b2, .int .i64 d] rfl (by rw [show Act.eval _ (.tmp 60) = q26 from rfl, hq26]; exact src_blk hb26 rfl (by simp [Value.oneCell'])) (by simp only [maxLen]; omega) (by omega) hB8 (fun v' w9 hown' hgrow _ => ⟨v', rfl, by rw [← HSN.out]; exact hown', (Below.refl _ _).grown hgrow hB8 (fun k hk => (World.ownsRow.lt hown14 k hk).1)⟩)
    simp only [Act.put, List.setIfInBounds_toArray, List.set_cons_zero, List.set_cons_succ]
    iterate 2
      refine obsX_is (fun w8 hE2 _ => ?_) ?_
      · have hB8 := hE2.size
        obtain ⟨y, y2, y3, y4, _⟩ := HALL.out w8 (HB.out.trans (((Below.refl w1.heap.size w1).drew.trans hE2).mono hB1))
        go_wp2_with fail
        exact postX_is (Below.refl _ _) hB8
      simp only [Act.put, List.setIfInBounds_toArray, List.set_cons_zero, List.set_cons_succ]
    refine obsX_end fun w5 hE5 hkn => ?_
    have hown27 : w5.ownsRow w1.heap.size 75 2 q27 (m + 1) xs2 := hkn _ (List.mem_cons_self) (.inr rfl)
    obtain ⟨y, _, _, y4, z4, _, hfin⟩ := HALL.out w5 (HB.out.trans (((Below.refl w1.heap.size w1).drew.trans hE5).mono hB1))
    obtain ⟨F5, x0, x4⟩ := hfin q27 (own_base0 hown27) (fun k hk => by have := (hown27.lt k hk).1; omega)
    obtain ⟨qa, qc, hq⟩ := own_slice hown27
    have HF := Lib.hid F5
    have HX0 := Lib.hid x0
    have HX4 := Lib.hid x4
    clear F5 x0 x4 hE5 hkn hfin hown27 HALL
    subst hq
    have hm1 : ((m + 1 : Nat) : Int) = (m : Int) + 1 := by omega
    change wpList _ _ _ _ _ _
    go_upto_region 9 with fail
    change Code.wp _ _ _ _ (w5.setCell ⟨b, i * 5 + 4, none⟩ (.slice qa (m + 1) qc))
    generalize w5.setCell ⟨b, i * 5 + 4, none⟩ (.slice qa (m + 1) qc) = w6 at *
    clear y y4 z4
    have y := HX0.out
    have y4 := HX4.out
    go_wp2
    go_ret2
    exact ⟨_, rfl, HF.out.1, HF.out.2⟩
theorem dtMark_any (h : IsDt w G g l) (t k : Int) :
    Calls Try.prog 17 #[.pointer (some ⟨g, 0, none⟩), .int .i64 t, .int .i64 k] w (OutD w G g (l.markT t k).1 (.tuple #[.int .i64 (l.markT t k).2.1, .int .i64 (l.markT t k).2.2])) := by
  unfold Tb.markT
  cases hx : l.at_ t with
  | none => exact dtMark_none h t k hx
  | some x =>
    dsimp only
    by_cases hk : k = x.left
    · rw [if_neg (by simpa using hk)]
      subst hk
      by_cases hl : 4 ≤ x.marks.length
      · rw [if_pos hl]; exact dtMark_full h t hx hl
      · rw [if_neg hl]; exact dtMark_new h t hx hl
    · rw [if_pos hk]; exact dtMark_bad h t k hx hk
end
end Go.Proofs.Ytfbghdkbimnnbaa
