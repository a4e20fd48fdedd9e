/- Package table: Mark. -/
import Derived.Test.YtfbghdkbimnnbaaTbD
import Derived.Test.YtfbghdkbimnnbaaRegionF
namespace Go.Proofs.Ytfbghdkbimnnbaa
open Go.RowKit

theorem info_mark : (Try.prog.toTables.info? 73).map (fun i => (i.zero, i.size, i.bytes)) = some (some (.agg #[.int .i64 0, .int .i64 0]), 2, 16) := by kernel_rfl
section
variable {w : World} {F : Foot} {q : Nat} {l : Tb}
set_option maxRecDepth 100000 in
set_option maxHeartbeats 8000000 in
theorem tbMark_none (h : IsTab w F q l) (t k : Int) (hx : l.at_ t = none) :
    Calls Try.prog 16 #[.pointer (some ⟨q, 0, none⟩), .int .i64 t, .int .i64 k] w (OutT w F q l (.tuple #[.int .i64 0, .int .i64 7])) := by
  have H := Lib.hid h
  obtain ⟨ho, m, B, V, r⟩ := h
  have K := Lib.hid (tbFind_none r hx)
  clear r ho hx
  go_enter Try.func16, Try.ntmps16
  go_wp2_with fail
  refine K.out.mono ?_
  rintro e w1 ⟨rfl, rfl⟩
  go_wp2
  go_ret2
  exact OutT.same H.out _
set_option maxRecDepth 100000 in
set_option maxHeartbeats 8000000 in
theorem tbMark_bad (h : IsTab w F q l) (t k : Int) {x : Tx} (hx : l.at_ t = some x) (hk : k ≠ x.left) :
    Calls Try.prog 16 #[.pointer (some ⟨q, 0, none⟩), .int .i64 t, .int .i64 k] w (OutT w F q l (.tuple #[.int .i64 0, .int .i64 1])) := by
  have H := Lib.hid h
  obtain ⟨ho, m, B, V, r⟩ := h
  have K := Lib.hid (tbFind_some r hx)
  have c3 := (r.cells hx).cell 3
  simp [stCells] at c3
  have hk' : (k != x.left) = true := by simpa using hk
  clear r ho hx hk
  generalize B t = g at *
  generalize x.left = b at *
  go_enter Try.func16, Try.ntmps16
  go_wp2_with fail
  refine K.out.mono ?_
  rintro e w1 ⟨rfl, rfl⟩
  go_wp2
  go_ret2
  exact OutT.same H.out _
set_option maxRecDepth 100000 in
set_option maxHeartbeats 8000000 in
theorem tbMark_full (h : IsTab w F q l) (t : Int) {x : Tx} (hx : l.at_ t = some x) (hl : 4 ≤ x.marks.length) :
    Calls Try.prog 16 #[.pointer (some ⟨q, 0, none⟩), .int .i64 t, .int .i64 x.left] w (OutT w F q l (.tuple #[.int .i64 0, .int .i64 5])) := by
  have H := Lib.hid h
  obtain ⟨ho, m, B, V, r⟩ := h
  have K := Lib.hid (tbFind_some r hx)
  have HC := Lib.hid (r.cells hx)
  have c3 := HC.out.cell 3
  have c4 := HC.out.cell 4
  simp [stCells] at c3 c4
  obtain ⟨va, vc, hvs⟩ := own_slice (r.marks hx)
  rw [hvs] at c4
  have hl4 := ho.marks x (Tb.at_some hx).1
  have hl' : (4 : Int) ≤ x.marks.length := by omega
  have hl2 : (x.marks.length : Int) ≤ 4 := by omega
  clear r ho hx hl hl4 HC hvs
  generalize B t = g at *
  generalize x.left = b at *
  generalize x.marks.length = n at *
  go_enter Try.func16, Try.ntmps16
  go_wp2_with fail
  refine K.out.mono ?_
  rintro e w1 ⟨rfl, rfl⟩
  go_wp2
  go_ret2
  exact OutT.same H.out _
set_option maxRecDepth 100000 in
set_option maxHeartbeats 8000000 in
theorem tbMark_new (h : IsTab w F q l) (t : Int) {x : Tx} (hx : l.at_ t = some x) (hl : ¬ 4 ≤ x.marks.length) :
    Calls Try.prog 16 #[.pointer (some ⟨q, 0, none⟩), .int .i64 t, .int .i64 x.left] w (OutT w F q (l.set { x with marks := x.marks ++ [(x.last, x.left)] }) (.tuple #[.int .i64 x.marks.length, .int .i64 0])) := by
  obtain ⟨i0, hi, hz0, hz1, hz2⟩ := info_parts info_mark
  have HOK : Hid (l.set { x with marks := x.marks ++ [(x.last, x.left)] }).Ok := by
    have := h.1.mark t x.left
    unfold Tb.markT at this
    rw [hx] at this
    simp [hl] at this
    exact this
  obtain ⟨ho, m, B, V, r⟩ := h
  have K := Lib.hid (tbFind_some r hx)
  have HC := Lib.hid (r.cells hx)
  have HM := Lib.hid (r.marks hx)
  have ht := (Tb.at_some hx).2
  have UPD : Hid (∀ w9 v', w9.ownsRow 0 73 2 v' (x.marks.length + 1) (mkV (x.marks ++ [(x.last, x.left)])) → Blk w9 (B t) 66 (stCells x (V t)) → (∀ b, v'.ownBlock = some b → (V t).ownBlock = some b ∨ w.heap.size ≤ b) → Step (fun b => b = B t ∨ (V t).ownBlock = some b) (fun b => b = B t ∨ (V t).ownBlock = some b) w w9 →
      IsTab (w9.setCell ⟨B t, 4, none⟩ v') (fun b => F b ∨ v'.ownBlock = some b) q (l.set { x with marks := x.marks ++ [(x.last, x.left)] }) ∧ Step F (fun b => F b ∨ v'.ownBlock = some b) w (w9.setCell ⟨B t, 4, none⟩ v')) := fun w9 v' ho9 hb9 hloc hs => by
    have hne : v'.ownBlock ≠ some (B t) := own_blk ho9 hb9 (by decide)
    obtain ⟨h1, h2⟩ := r.upd (x' := { x with marks := x.marks ++ [(x.last, x.left)] }) hx ht (w' := w9.setCell ⟨B t, 4, none⟩ v') (hb9.set 4 v') (by rw [List.length_append]; exact own_keep ho9 fun b hb => heap_setCell_other w9 _ b _ (fun e => hne (by rw [hb, e]))) hloc (hs.set (p := ⟨B t, 4, none⟩) (.inl rfl) v')
    exact ⟨⟨HOK.out, _, _, _, h1⟩, h2⟩
  have c2 := HC.out.cell 2
  have c3 := HC.out.cell 3
  have c4 := HC.out.cell 4
  simp [stCells] at c2 c3 c4
  obtain ⟨va, vc, hvs⟩ := own_slice (r.marks hx)
  have hl' : ¬ (4 : Int) ≤ x.marks.length := by omega
  have hl2 : (x.marks.length : Int) < 4 := by omega
  have HL : Hid (x.marks.length < 4) := by unfold Hid; omega
  have HSN := Lib.hid (mkV_snoc x.marks x.last x.left)
  clear r ho hx hl ht
  generalize V t = v at *
  subst hvs
  generalize B t = g at *
  generalize mkV x.marks = xs at *
  generalize mkV (x.marks ++ [(x.last, x.left)]) = xs2 at *
  obtain ⟨t0, b1, b2, d, mm⟩ := x
  simp only at *
  generalize mm.length = n at *
  go_enter Try.func16, Try.ntmps16
  go_wp2_with fail
  refine K.out.mono ?_
  rintro e w1 ⟨rfl, hw1⟩
  subst hw1
  go_upto_region 8 with fail
  clear c2 c3 c4 K
  have hwn : IntKind.i64.wrap ((n : Int) + 1 - 1) = (n : Int) := by rw [IntWalk.i64_in _ (by omega)]; omega
  refine' wp_region_free [0] 13 [.is (.pointer (some ⟨g, 0, none⟩)), .is _, .is _, .is _, .is _, .is _, .is _, .is _, .is _, .is _, .is _, .is _, .slice w.heap.size 1 73 #[.int .i64 b2, .int .i64 d]] (by kernel_rfl) (by kernel_rfl) (by kernel_rfl) (by kernel_rfl) (by kernel_rfl) rfl ⟨rfl, trivial⟩ (fun _ _ _ _ _ h => h) ?main
  case main =>
    iterate 12
      refine obs_is (fun w8 hE2 _ => ?_) ?_
      · have b8 := HC.out.drew.keep hE2 HC.out.lt
        have y2 := b8.cell 2
        have y4 := b8.cell 4
        simp [stCells] at y2 y4
        clear b8
        go_wp2_with fail
        exact post_is (Below.refl _ _)
      simp only [Act.put, List.setIfInBounds_toArray, List.set_cons_zero, List.set_cons_succ]
    refine obs_slice (fun w8 hE2 _ => ?_) (fun qq => ?_)
    · go_wp2
      exact ⟨_, rfl, ⟨w8.heap.size, hE2.size, rfl, Blk.new _ _ _⟩, (Below.refl _ _).alloc (Nat.le_refl _) _⟩
    simp only [Act.put, List.setIfInBounds_toArray, List.set_cons_zero, List.set_cons_succ]
    refine obs_end fun w8 hE3 hkn => ?_
    obtain ⟨g2, _, rfl, hb2⟩ := hkn _ (List.mem_cons_self)
    have hB8 := (Below.refl w.heap.size w).drew.trans hE3
    have OW8 := own_below HM.out hB8
    have F8 := HC.out.keep hB8 HC.out.lt
    have nq := own_blk OW8 F8 (by decide)
    have lg := F8.lt
    have z4 := F8.frozen 4
    have y4 := F8.cell 4
    simp [stCells] at y4
    have HF8 := Lib.hid F8
    have HB8 := Lib.hid hB8
    have HOW := Lib.hid OW8
    have HLL := HL.out
    clear hkn F8 hE3 hB8 OW8 HC HM
    go_wp2_with (at_builtin; refine wpList_append_own_at _ rfl (.tmp 37) (.tmp 45) 64 rfl 0 73 i0 (.agg #[.int .i64 0, .int .i64 0]) 2 16 Try.underlying64 hi hz0 hz1 hz2 rfl (by decide) _ _ _ rfl HOW.out ⟨g2, 0, none⟩ 1 1 [.int .i64 b2, .int .i64 d] rfl rfl (World.news_of_block hb2) (by simp [Value.oneCell']) (by simp only [maxLen]; omega) (by omega) (Nat.zero_le _) ?_)
    intro v' w9 hown9 hgrow _ hat
    rw [HSN.out] at hown9
    have z9 := (hgrow.frozen_far ⟨g, 4, none⟩ lg (Ne.symm nq)).trans z4
    have y9 := (hgrow.cell_far ⟨g, 4, none⟩ lg (Ne.symm nq)).trans y4
    have F9 : Blk w9 g 66 (stCells ⟨t0, b1, b2, d, mm⟩ (.slice va n vc)) := (hgrow.block g lg (Ne.symm nq)).trans HF8.out
    have FIN := Lib.hid (UPD.out w9 v' hown9 F9 (fun b hb => by
      rcases hat with e | e
      · exact .inl (e.symm.trans hb)
      · have := Option.some.inj (e.symm.trans hb)
        subst this
        exact .inr HB8.out.size) (((Step.refl _ w).more HB8.out).grown hgrow fun b hb => .inr hb))
    obtain ⟨ga, ca, hv9⟩ := own_slice hown9
    subst hv9
    have hn1 : ((n + 1 : Nat) : Int) = (n : Int) + 1 := by omega
    clear UPD F9 HF8 HB8 hown9 hgrow hat hb2 nq lg y4 z4 HOW HLL
    go_wp2
    go_ret2
    exact ⟨_, rfl, FIN.out.1, FIN.out.2⟩
end
end Go.Proofs.Ytfbghdkbimnnbaa
