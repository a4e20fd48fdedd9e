/- Package table: Mark, whole; Back. -/
import Derived.Test.YtfbghdkbimnnbaaTbE
namespace Go.Proofs.Ytfbghdkbimnnbaa
open Go.RowKit

section
variable {w : World} {F : Foot} {q : Nat} {l : Tb}
theorem tbMark_any (h : IsTab w F q l) (t k : Int) :
    Calls Try.prog 16 #[.pointer (some ⟨q, 0, none⟩), .int .i64 t, .int .i64 k] w (OutT w F q (l.markT t k).1 (.tuple #[.int .i64 (l.markT t k).2.1, .int .i64 (l.markT t k).2.2])) := by
  unfold Tb.markT
  cases hx : l.at_ t with
  | none => exact tbMark_none h t k hx
  | some x =>
    dsimp only
    by_cases hk : k = x.left
    · rw [if_neg (by simpa using hk)]
      subst hk
      by_cases hl : 4 ≤ x.marks.length
      · rw [if_pos hl]; exact tbMark_full h t hx hl
      · rw [if_neg hl]; exact tbMark_new h t hx hl
    · rw [if_pos hk]; exact tbMark_bad h t k hx hk
set_option maxRecDepth 100000 in
set_option maxHeartbeats 8000000 in
theorem tbBack_none (h : IsTab w F q l) (t k : Int) (hx : l.at_ t = none) :
    Calls Try.prog 18 #[.pointer (some ⟨q, 0, none⟩), .int .i64 t, .int .i64 k] w (OutT w F q l (.tuple #[.int .i64 0, .int .i64 0, .int .i64 7])) := by
  have H := Lib.hid h
  obtain ⟨ho, m, B, V, r⟩ := h
  have K := Lib.hid (tbFind_none r hx)
  clear r ho hx
  go_enter Try.func18, Try.ntmps18
  go_wp2_with fail
  refine K.out.mono ?_
  rintro e w1 ⟨rfl, rfl⟩
  go_wp2
  go_ret3
  exact OutT.same H.out _
set_option maxRecDepth 100000 in
set_option maxHeartbeats 8000000 in
theorem tbBack_bad (h : IsTab w F q l) (t k : Int) {x : Tx} (hx : l.at_ t = some x) (hk : k < 0 ∨ x.marks.length ≤ k) :
    Calls Try.prog 18 #[.pointer (some ⟨q, 0, none⟩), .int .i64 t, .int .i64 k] w (OutT w F q l (.tuple #[.int .i64 0, .int .i64 0, .int .i64 7])) := by
  have H := Lib.hid h
  obtain ⟨ho, m, B, V, r⟩ := h
  have K := Lib.hid (tbFind_some r hx)
  have c4 := (r.cells hx).cell 4
  simp [stCells] at c4
  obtain ⟨va, vc, hvs⟩ := own_slice (r.marks hx)
  rw [hvs] at c4
  have hk' : decide (k < 0) = true ∨ (decide (k < 0) = false ∧ decide ((x.marks.length : Int) ≤ k) = true) := by
    by_cases h0 : k < 0
    · exact .inl (decide_eq_true h0)
    · exact .inr ⟨decide_eq_false h0, decide_eq_true (by omega)⟩
  have hl2 : (x.marks.length : Int) ≤ 4 := by have := ho.marks x (Tb.at_some hx).1; omega
  clear r ho hx hk hvs
  generalize B t = g at *
  generalize x.marks.length = n at *
  rcases hk' with hk | ⟨hk, hk2⟩ <;> (
    go_enter Try.func18, Try.ntmps18
    go_wp2_with fail
    refine K.out.mono ?_
    rintro e w1 ⟨rfl, rfl⟩
    go_wp2
    go_ret3
    exact OutT.same H.out _)
set_option maxRecDepth 100000 in
set_option maxHeartbeats 8000000 in
theorem tbBack_new (h : IsTab w F q l) (t : Int) (k : Nat) {x : Tx} (hx : l.at_ t = some x) {p : Int × Int} (hp : x.marks[k]? = some p) :
    Calls Try.prog 18 #[.pointer (some ⟨q, 0, none⟩), .int .i64 t, .int .i64 k] w (OutT w F q (l.set { x with marks := x.marks.take (k + 1) }) (.tuple #[.int .i64 p.1, .int .i64 p.2, .int .i64 0])) := by
  have hlt : k < x.marks.length := (List.getElem?_eq_some_iff.1 hp).1
  have HOK : Hid (l.set { x with marks := x.marks.take (k + 1) }).Ok := by
    have := h.1.back t k
    unfold Tb.backT at this
    rw [hx] at this
    simp only at this
    rw [if_neg (by omega), Int.toNat_natCast] at this
    exact this
  obtain ⟨ho, m, B, V, r⟩ := h
  have K := Lib.hid (tbFind_some r hx)
  have HC := Lib.hid (r.cells hx)
  have HM := Lib.hid (r.marks hx)
  have ht := (Tb.at_some hx).2
  obtain ⟨g2, cap, hvs, hc1, hc2⟩ := own_form HM.out (by omega)
  have hl4 := ho.marks x (Tb.at_some hx).1
  have hne : g2 ≠ B t := fun e => own_blk HM.out HC.out (by decide) (by rw [hvs, e]; rfl)
  have FIN : Hid (IsTab (w.setCell ⟨B t, 4, none⟩ (.slice (some ⟨g2, 0, none⟩) ((k + 1 : Nat) : Nat) cap)) (fun b => F b ∨ b = g2) q (l.set { x with marks := x.marks.take (k + 1) }) ∧ Step F (fun b => F b ∨ b = g2) w (w.setCell ⟨B t, 4, none⟩ (.slice (some ⟨g2, 0, none⟩) ((k + 1 : Nat) : Nat) cap))) := by
    have hcut : w.ownsRow 0 73 2 (.slice (some ⟨g2, 0, none⟩) (k + 1) cap) (x.marks.take (k + 1)).length (mkV (x.marks.take (k + 1))) := by
      have hM := HM.out
      rw [hvs] at hM
      obtain ⟨h1, h2⟩ := hM
      rw [List.length_take, Nat.min_eq_left (by omega)]
      refine ⟨by rw [mkV_len, List.length_take, Nat.min_eq_left (by omega)], ?_⟩
      rcases h2 with ⟨h2, _⟩ | ⟨g', cap', cur, e, h3, h4, h5, h6, h7, h8⟩
      · cases h2
      · cases e
        refine .inr ⟨g2, cap, cur, rfl, h3, h4, by omega, h6, h7, ?_⟩
        rw [mkV_take _ _ (by omega), ← h8, List.take_take, Nat.min_eq_left (by omega)]
    obtain ⟨h1, h2⟩ := r.upd (x' := { x with marks := x.marks.take (k + 1) }) hx ht (w' := w.setCell ⟨B t, 4, none⟩ (.slice (some ⟨g2, 0, none⟩) ((k + 1 : Nat) : Nat) cap)) (HC.out.set 4 _) (own_keep hcut fun b hb => heap_setCell_other w _ b _ (fun e => hne (Eq.trans (Option.some.inj hb) e))) (fun b hb => .inl (by rw [hvs]; exact hb)) ((Step.refl (fun b => b = B t ∨ (V t).ownBlock = some b) w).set (p := ⟨B t, 4, none⟩) (.inl rfl) _)
    have e : (fun b => F b ∨ (Value.slice (some ⟨g2, 0, none⟩) ((k + 1 : Nat) : Nat) cap).ownBlock = some b) = fun b => F b ∨ b = g2 := by
      funext b
      simp only [Value.ownBlock, Option.some.injEq, eq_comm]
    rw [e] at h1 h2
    exact ⟨⟨HOK.out, _, _, _, h1⟩, h2⟩
  have hm0 := HM.out
  rw [hvs] at hm0
  obtain ⟨hp1, hp2⟩ := mkV_at x.marks k p hp
  have d0 := (hm0.cellAt (k * 2) (by omega)).trans hp1
  have d1 := (hm0.cellAt (k * 2 + 1) (by omega)).trans hp2
  have X1 := HC.out.set 4 (.slice (some ⟨g2, 0, none⟩) ((k + 1 : Nat) : Nat) cap)
  have e0 : (w.setCell ⟨B t, 4, none⟩ (.slice (some ⟨g2, 0, none⟩) ((k + 1 : Nat) : Nat) cap)).cell? ⟨g2, k * 2, none⟩ = some (.int .i64 p.1) := (World.cell?_of_block (heap_setCell_other w ⟨B t, 4, none⟩ g2 _ hne)).trans d0
  have e1 : (w.setCell ⟨B t, 4, none⟩ (.slice (some ⟨g2, 0, none⟩) ((k + 1 : Nat) : Nat) cap)).cell? ⟨g2, k * 2 + 1, none⟩ = some (.int .i64 p.2) := (World.cell?_of_block (heap_setCell_other w ⟨B t, 4, none⟩ g2 _ hne)).trans d1
  have x4 := X1.cell 4
  have c4 := HC.out.cell 4
  have z4 := HC.out.frozen 4
  simp [stCells] at c4 x4
  rw [hvs] at c4
  have hki : ¬ (k : Int) < 0 := by omega
  have hki2 : ¬ (x.marks.length : Int) ≤ k := by omega
  have hk4 : (k : Int) < 4 := by omega
  have hkc : k + 1 ≤ cap := by omega
  clear r ho hx ht hp hlt hl4 hvs hc1 hc2 hne hm0 hp1 hp2 d0 d1 X1 HOK HC HM
  generalize (fun b => F b ∨ b = g2) = F2 at *
  generalize l.set { x with marks := x.marks.take (k + 1) } = l2 at *
  generalize B t = g at *
  generalize x.marks.length = n at *
  obtain ⟨p1, p2⟩ := p
  go_enter Try.func18, Try.ntmps18
  go_wp2_with fail
  refine K.out.mono ?_
  rintro e w1 ⟨rfl, hw1⟩
  subst hw1
  go_upto_region 7 with fail
  change Code.wp _ _ _ _ (w.setCell ⟨g, 4, none⟩ (.slice (some ⟨g2, 0, none⟩) ((k + 1 : Nat) : Nat) cap))
  clear c4 z4 K
  have HX4 := Lib.hid x4
  have HE0 := Lib.hid e0
  have HE1 := Lib.hid e1
  clear x4 e0 e1
  generalize w.setCell ⟨g, 4, none⟩ (.slice (some ⟨g2, 0, none⟩) ((k + 1 : Nat) : Nat) cap) = w1 at *
  refine' wp_region_conf 19 (.is _ :: .is _ :: .is _ :: .is _ :: .is _ :: .is _ :: .is _ :: .is _ :: .is _ :: .is _ :: .is _ :: .is _ :: .is _ :: .is _ :: .is _ :: .is _ :: .is _ :: .is _ :: .is _ :: []) (by kernel_rfl) (by kernel_rfl) (by kernel_rfl) (by kernel_rfl) rfl ?main
  case main =>
    iterate 19
      refine obs_is (fun w8 hE2 _ => ?_) ?_
      · have y4 := ((Below.refl w1.heap.size w1).drew.trans hE2).cell (p := ⟨g, 4, none⟩) (World.block_lt_of_cell? w1 _ HX4.out) |>.trans HX4.out
        have y0 := ((Below.refl w1.heap.size w1).drew.trans hE2).cell (p := ⟨g2, k * 2, none⟩) (World.block_lt_of_cell? w1 _ HE0.out) |>.trans HE0.out
        have y1 := ((Below.refl w1.heap.size w1).drew.trans hE2).cell (p := ⟨g2, k * 2 + 1, none⟩) (World.block_lt_of_cell? w1 _ HE1.out) |>.trans HE1.out
        go_wp2_with fail
        exact post_is (Below.refl _ _)
      simp only [Act.put, List.setIfInBounds_toArray, List.set_cons_zero, List.set_cons_succ]
    refine obs_end fun w5 hE5 _ => ?_
    have B5 := Lib.hid ((Below.refl w1.heap.size w1).drew.trans hE5)
    change wpList _ _ _ _ _ _
    go_wp2
    go_ret3
    exact ⟨_, rfl, FIN.out.1.below B5.out, FIN.out.2.more B5.out⟩
theorem tbBack_any (h : IsTab w F q l) (t k : Int) :
    Calls Try.prog 18 #[.pointer (some ⟨q, 0, none⟩), .int .i64 t, .int .i64 k] w (OutT w F q (l.backT t k).1 (.tuple #[.int .i64 (l.backT t k).2.1.1, .int .i64 (l.backT t k).2.1.2, .int .i64 (l.backT t k).2.2])) := by
  unfold Tb.backT
  cases hx : l.at_ t with
  | none => exact tbBack_none h t k hx
  | some x =>
    dsimp only
    by_cases hk : k < 0 ∨ x.marks.length ≤ k
    · rw [if_pos hk]; exact tbBack_bad h t k hx hk
    · rw [if_neg hk]
      obtain ⟨j, rfl⟩ : ∃ j : Nat, k = j := ⟨k.toNat, by omega⟩
      have hj : j < x.marks.length := by omega
      rw [Int.toNat_natCast]
      have hp : x.marks[j]? = some (x.marks.getD j (0, 0)) := by rw [List.getD_eq_getElem?_getD, List.getElem?_eq_getElem hj]; rfl
      exact tbBack_new h t j hx hp
end
end Go.Proofs.Ytfbghdkbimnnbaa
