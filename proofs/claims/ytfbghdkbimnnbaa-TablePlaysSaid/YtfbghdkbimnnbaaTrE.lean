/- careenref10: Back, whole. -/
import Derived.Test.YtfbghdkbimnnbaaTrD
import Derived.Test.YtfbghdkbimnnbaaRegionX
namespace Go.Proofs.Ytfbghdkbimnnbaa
open Go.RowKit

namespace DtRaw
variable {w w1 : World} {G : Foot} {g : Nat} {v : Value} {V : Int → Value} {l : Tb}
/-- A transaction's marks were written. -/
theorem remark (r : DtRaw w G g v V l) (hr : l.Pairwise fun a b => a.txn < b.txn) {i b cap : Nat} {x : Tx} (hi : l[i]? = some x) (hv : v = .slice (some ⟨b, 0, none⟩) l.length cap) (m' : List (Int × Int)) (vm : Value) (hb : Below w.heap.size w w1)
    (hown : w1.ownsRow 0 75 2 vm m'.length (mkV m')) (hloc : ∀ k, vm.ownBlock = some k → (V x.txn).ownBlock = some k ∨ w.heap.size ≤ k) :
    DtRaw (w1.setCell ⟨b, i * 5 + 4, none⟩ vm) (fun k => G k ∨ vm.ownBlock = some k) g v (fun s => if s = x.txn then vm else V s) (l.set { x with marks := m' }) ∧ Step G (fun k => G k ∨ vm.ownBlock = some k) w (w1.setCell ⟨b, i * 5 + 4, none⟩ vm) := by
  have hxl : x ∈ l := List.mem_of_getElem? hi
  have r1 := r.below hb
  have hlen : (l.set { x with marks := m' }).length = l.length := by unfold Tb.set; rw [List.length_map]
  have hgb : g ≠ b := fun e => own_blk r.row r.head (by decide) (by rw [hv, e]; rfl)
  have hmb : ∀ y ∈ l, ∀ k, (V y.txn).ownBlock = some k → k ≠ b := fun y hy k hk e => own_apart (r.mks y hy) r.row (by decide) hk (by rw [hv, e]; rfl)
  have hvb : ∀ k, vm.ownBlock = some k → k ≠ b := fun k hk e => own_apart hown r1.row (by decide) hk (by rw [hv, e]; rfl)
  have hsz : (w1.setCell ⟨b, i * 5 + 4, none⟩ vm).heap.size = w1.heap.size := by simp [World.setCell]
  have hFV : ∀ k, (V x.txn).ownBlock = some k → G k := r.fv x hxl
  have hrow := r1.row
  rw [hv] at hrow
  refine ⟨⟨(heap_setCell_other w1 _ g _ hgb).trans r1.head, ?_, fun y hy => ?_, fun y hy z hz k => ?_, .inl r.fg, fun k hk => .inl (r.fr k hk), fun y hy k hk => ?_, fun k hk => ?_⟩, ?_⟩
  · have h1 := (hrow.stored (i * 5 + 4) vm).1
    rw [hlen, hv, set_idx (x' := { x with marks := m' }) hr hi rfl, ← txV_set (c := 4) (V := V) (V' := fun s => if s = x.txn then vm else V s) (by omega) l i x { x with marks := m' } hi (by simp only [if_pos]; rfl) fun j y hj hy => ?_]
    · exact h1
    · have hne : y.txn ≠ x.txn := by
        obtain ⟨hil, hie⟩ := List.getElem?_eq_some_iff.1 hi
        obtain ⟨hjl, hje⟩ := List.getElem?_eq_some_iff.1 hy
        rw [List.pairwise_iff_getElem] at hr
        rw [← hie, ← hje]
        rcases Nat.lt_or_gt_of_ne hj with h | h
        · have := hr j i hjl hil h; omega
        · have := hr i j hil hjl h; omega
      simp [hne]
  · rcases Tb.mem_set hy with rfl | ⟨hy, hne⟩
    · simp only [if_pos]
      exact own_keep hown fun k hk => heap_setCell_other w1 _ k _ (hvb k hk)
    · have hne : y.txn ≠ x.txn := hne
      simp only [if_neg hne]
      exact own_keep (r1.mks y hy) fun k hk => heap_setCell_other w1 _ k _ (hmb y hy k hk)
  · intro h1 h2
    have old : ∀ y ∈ l, y.txn ≠ x.txn → ∀ k, (V y.txn).ownBlock = some k → vm.ownBlock ≠ some k := fun y hy hne k hk hk2 => by
      rcases hloc k hk2 with h3 | h3
      · exact hne (r.apartV y hy x hxl k hk h3)
      · have := r.lt k (r.fv y hy k hk); omega
    rcases Tb.mem_set hy with e1 | ⟨hy', hne⟩ <;> rcases Tb.mem_set hz with e2 | ⟨hz', hnz⟩
    · rw [e1, e2]
    · have hnz : z.txn ≠ x.txn := hnz
      rw [e1] at h1 ⊢
      simp only [if_pos] at h1
      simp only [if_neg hnz] at h2
      exact absurd h1 (old z hz' hnz k h2)
    · have hne : y.txn ≠ x.txn := hne
      rw [e2] at h2 ⊢
      simp only [if_pos] at h2
      simp only [if_neg hne] at h1
      exact absurd h2 (old y hy' hne k h1)
    · have hne : y.txn ≠ x.txn := hne
      have hnz : z.txn ≠ x.txn := hnz
      simp only [if_neg hne] at h1
      simp only [if_neg hnz] at h2
      exact r.apartV y hy' z hz' k h1 h2
  · rcases Tb.mem_set hy with rfl | ⟨hy, hne⟩
    · simp only [if_pos] at hk; exact .inr hk
    · have hne : y.txn ≠ x.txn := hne
      simp only [if_neg hne] at hk; exact .inl (r.fv y hy k hk)
  · rw [hsz]
    rcases hk with hk | hk
    · exact r1.lt k hk
    · exact (hown.lt k hk).2
  · have h1 := ((Step.ofBelow (F := G) hb).set (p := ⟨b, i * 5 + 4, none⟩) (r.fr b (by rw [hv]; rfl)) vm)
    exact ⟨h1.os, h1.tape, h1.output, h1.size, h1.block, fun k hk => hk.elim .inl fun e => (hloc k e).elim (fun e => .inl (hFV k e)) .inr⟩
end DtRaw
section
variable {w : World} {G : Foot} {g : Nat} {l : Tb}
set_option maxRecDepth 100000 in
set_option maxHeartbeats 8000000 in
theorem dtBack_new (h : IsDt w G g l) (t : Int) (k : Nat) {x : Tx} (hx : l.at_ t = some x) {p : Int × Int} (hp : x.marks[k]? = some p) :
    Calls Try.prog 19 #[.pointer (some ⟨g, 0, none⟩), .int .i64 t, .int .i64 k] w (OutD w G g (l.set { x with marks := x.marks.take (k + 1) }) (.tuple #[.int .i64 p.1, .int .i64 p.2, .int .i64 0])) := by
  have hlt : k < x.marks.length := (List.getElem?_eq_some_iff.1 hp).1
  have HOK : Hid (l.set { x with marks := x.marks.take (k + 1) }).Ok := by
    have := h.1.back t k
    unfold Tb.backT at this
    rw [hx] at this
    simp only at this
    rw [if_neg (by omega), Int.toNat_natCast] at this
    exact this
  obtain ⟨i, hi, ht, hn⟩ := idx_some hx
  obtain ⟨ho, v, V, r⟩ := h
  have K := Lib.hid (dtFind_some r ho.few t i x hi ht hn)
  have hxl := List.mem_of_getElem? hi
  obtain ⟨b, cap, hvb, hv, A⟩ := r.spot ho.few hi
  have hM := r.mks x hxl
  obtain ⟨g2, mc, hvm, hc1, hc2⟩ := own_form hM (by omega)
  have hl4 : (l.length : Int) ≤ 4 := by have := ho.few; omega
  have hi4 : (i : Int) < l.length := by have := A.len; omega
  have hm4 : x.marks.length ≤ 4 := ho.marks x hxl
  have hcap := A.hcap
  have hrise := ho.rise
  have hgb : g2 ≠ b := fun e => own_apart hM r.row (by decide) (b := g2) (by rw [hvm]; rfl) (by rw [hv, e]; rfl)
  obtain ⟨hp1, hp2⟩ := mkV_at x.marks k p hp
  have hgl := r.head.lt
  have HALL : Hid (∀ W, Below w.heap.size w W → W.cell? ⟨g, 0, none⟩ = some (.slice (some ⟨b, 0, none⟩) l.length cap) ∧ W.cell? ⟨b, i * 5 + 4, none⟩ = some (.slice (some ⟨g2, 0, none⟩) x.marks.length mc) ∧ W.frozen? ⟨b, i * 5 + 4, none⟩ = false ∧
      (IsDt (W.setCell ⟨b, i * 5 + 4, none⟩ (.slice (some ⟨g2, 0, none⟩) (k + 1) mc)) (fun q => G q ∨ q = g2) g (l.set { x with marks := x.marks.take (k + 1) }) ∧ Step G (fun q => G q ∨ q = g2) w (W.setCell ⟨b, i * 5 + 4, none⟩ (.slice (some ⟨g2, 0, none⟩) (k + 1) mc))) ∧
      (W.setCell ⟨b, i * 5 + 4, none⟩ (.slice (some ⟨g2, 0, none⟩) (k + 1) mc)).cell? ⟨g, 0, none⟩ = some (.slice (some ⟨b, 0, none⟩) l.length cap) ∧ (W.setCell ⟨b, i * 5 + 4, none⟩ (.slice (some ⟨g2, 0, none⟩) (k + 1) mc)).cell? ⟨b, i * 5 + 4, none⟩ = some (.slice (some ⟨g2, 0, none⟩) (k + 1) mc) ∧
      (W.setCell ⟨b, i * 5 + 4, none⟩ (.slice (some ⟨g2, 0, none⟩) (k + 1) mc)).cell? ⟨g2, k * 2, none⟩ = some (.int .i64 p.1) ∧ (W.setCell ⟨b, i * 5 + 4, none⟩ (.slice (some ⟨g2, 0, none⟩) (k + 1) mc)).cell? ⟨g2, k * 2 + 1, none⟩ = some (.int .i64 p.2)) := fun W hW => by
    have rW := r.below hW
    have hMW := rW.mks x hxl
    rw [hvm] at hMW
    have hrowW := rW.row
    rw [hv] at hrowW
    have hcut : W.ownsRow 0 75 2 (.slice (some ⟨g2, 0, none⟩) (k + 1) mc) (x.marks.take (k + 1)).length (mkV (x.marks.take (k + 1))) := by
      obtain ⟨h1, h2⟩ := hMW
      rw [List.length_take, Nat.min_eq_left (by omega)]
      refine ⟨by rw [mkV_len, List.length_take, Nat.min_eq_left (by omega)], ?_⟩
      rcases h2 with ⟨h2, _⟩ | ⟨g', cap', cur, e, h3, h4, h5, h6, h7, h8⟩
      · cases h2
      · cases e
        refine .inr ⟨g2, mc, cur, rfl, h3, h4, by omega, h6, h7, ?_⟩
        rw [mkV_take _ _ (by omega), ← h8, List.take_take, Nat.min_eq_left (by omega)]
    obtain ⟨b', cap', hvb', hv', A'⟩ := rW.spot ho.few hi
    have hbb : b' = b := by rw [hvb] at hvb'; exact (Option.some.inj hvb').symm
    subst hbb
    have hcc : cap' = cap := by rw [hv] at hv'; cases hv'; rfl
    subst hcc
    have h1 := r.remark hrise hi hv (x.marks.take (k + 1)) (.slice (some ⟨g2, 0, none⟩) (k + 1) mc) hW hcut (fun q hq => .inl (by rw [hvm]; exact hq))
    have e : (fun q => G q ∨ (Value.slice (some ⟨g2, 0, none⟩) (k + 1) mc).ownBlock = some q) = fun q => G q ∨ q = g2 := by
      funext q
      simp only [Value.ownBlock, Option.some.injEq, eq_comm]
    rw [e] at h1
    have c4 := A'.c4
    rw [hvm] at c4
    have hbl : b' < W.heap.size := A'.blt
    refine ⟨A'.c, c4, hrowW.frozenAt _, ⟨⟨HOK.out, _, _, h1.1⟩, h1.2⟩, ?_, ?_, ?_, ?_⟩
    · exact (World.cell?_of_block (heap_setCell_other W ⟨b', i * 5 + 4, none⟩ g _ (fun e => own_blk rW.row rW.head (by decide) (by rw [hv, show g = b' from e]; rfl)))).trans A'.c
    · have h2 := (hrowW.stored (i * 5 + 4) (.slice (some ⟨g2, 0, none⟩) (k + 1) mc)).1
      rw [h2.cellAt (i * 5 + 4) (by have := A'.len; omega), List.getElem?_set, if_pos rfl, if_pos (by rw [txV_len]; have := A'.len; omega)]
    · exact (World.cell?_of_block (heap_setCell_other W ⟨b', i * 5 + 4, none⟩ g2 _ hgb)).trans ((hMW.cellAt (k * 2) (by omega)).trans hp1)
    · exact (World.cell?_of_block (heap_setCell_other W ⟨b', i * 5 + 4, none⟩ g2 _ hgb)).trans ((hMW.cellAt (k * 2 + 1) (by omega)).trans hp2)
  have hki : ¬ (k : Int) < 0 := by omega
  have hki2 : ¬ (x.marks.length : Int) ≤ k := by omega
  have hk4 : (k : Int) < 4 := by omega
  have hkc : k + 1 ≤ mc := by omega
  clear r hx hi ht hn A hM hvm hc1 hgb hp1 hp2 hp hlt hv hvb hxl hrise ho hm4 HOK hgl
  generalize (fun q => G q ∨ q = g2) = G2 at *
  generalize l.set { x with marks := x.marks.take (k + 1) } = l2 at *
  generalize x.marks.length = m at *
  generalize l.length = n at *
  obtain ⟨p1, p2⟩ := p
  go_enter Try.func19, Try.ntmps19
  go_wp2_with fail
  refine K.out.mono ?_
  rintro e w1 ⟨rfl, hb⟩
  have HB := Lib.hid hb
  obtain ⟨c, c4, _⟩ := HALL.out w1 hb
  clear hb K
  go_upto_region 4 with fail
  clear c c4
  refine' wp_region_conf 18 (.is _ :: .is _ :: .is _ :: .is _ :: .is _ :: .is _ :: .is _ :: .is _ :: .is _ :: .is _ :: .is _ :: .is _ :: .is _ :: .is _ :: .is _ :: .is _ :: .is _ :: .is _ :: []) (by kernel_rfl) (by kernel_rfl) (by kernel_rfl) (by kernel_rfl) rfl ?main
  case main =>
    iterate 18
      refine obs_is (fun w8 hE2 _ => ?_) ?_
      · obtain ⟨y, y4, _⟩ := HALL.out w8 (below2 HB.out ((Below.refl w1.heap.size w1).drew.trans hE2))
        go_wp2_with fail
        exact post_is (Below.refl _ _)
      simp only [Act.put, List.setIfInBounds_toArray, List.set_cons_zero, List.set_cons_succ]
    refine obs_end fun w5 hE5 _ => ?_
    obtain ⟨y, y4, z4, F5, x0, x4, m0, m1⟩ := HALL.out w5 (below2 HB.out ((Below.refl w1.heap.size w1).drew.trans hE5))
    have HF := Lib.hid F5
    have HX0 := Lib.hid x0
    have HX4 := Lib.hid x4
    have HM0 := Lib.hid m0
    have HM1 := Lib.hid m1
    clear F5 x0 x4 m0 m1 hE5
    change wpList _ _ _ _ _ _
    go_upto_region 5 with fail
    change Code.wp _ _ _ _ (w5.setCell ⟨b, i * 5 + 4, none⟩ (.slice (some ⟨g2, 0, none⟩) (k + 1) mc))
    clear y y4 z4 HALL
    generalize w5.setCell ⟨b, i * 5 + 4, none⟩ (.slice (some ⟨g2, 0, none⟩) (k + 1) mc) = w6 at *
    refine' wp_region_conf 27 (.is _ :: .is _ :: .is _ :: .is _ :: .is _ :: .is _ :: .is _ :: .is _ :: .is _ :: .is _ :: .is _ :: .is _ :: .is _ :: .is _ :: .is _ :: .is _ :: .is _ :: .is _ :: .is _ :: .is _ :: .is _ :: .is _ :: .is _ :: .is _ :: .is _ :: .is _ :: .is _ :: []) (by kernel_rfl) (by kernel_rfl) (by kernel_rfl) (by kernel_rfl) rfl ?main
    case main =>
      iterate 27
        refine obs_is (fun w8 hE2 _ => ?_) ?_
        · have hb8 := (Below.refl w6.heap.size w6).drew.trans hE2
          have y := (hb8.cell (p := ⟨g, 0, none⟩) (World.block_lt_of_cell? w6 _ HX0.out)).trans HX0.out
          have y4 := (hb8.cell (p := ⟨b, i * 5 + 4, none⟩) (World.block_lt_of_cell? w6 _ HX4.out)).trans HX4.out
          have y0 := (hb8.cell (p := ⟨g2, k * 2, none⟩) (World.block_lt_of_cell? w6 _ HM0.out)).trans HM0.out
          have y1 := (hb8.cell (p := ⟨g2, k * 2 + 1, none⟩) (World.block_lt_of_cell? w6 _ HM1.out)).trans HM1.out
          clear hb8 hE2
          go_wp2_with fail
          exact post_is (Below.refl _ _)
        simp only [Act.put, List.setIfInBounds_toArray, List.set_cons_zero, List.set_cons_succ]
      refine obs_end fun w7 hE7 _ => ?_
      have B7 := Lib.hid ((Below.refl w6.heap.size w6).drew.trans hE7)
      clear hE7
      change wpList _ _ _ _ _ _
      go_wp2
      go_ret3
      exact ⟨_, rfl, HF.out.1.below B7.out, HF.out.2.more B7.out⟩
theorem dtBack_any (h : IsDt w G g l) (t k : Int) :
    Calls Try.prog 19 #[.pointer (some ⟨g, 0, none⟩), .int .i64 t, .int .i64 k] w (OutD w G g (l.backT t k).1 (.tuple #[.int .i64 (l.backT t k).2.1.1, .int .i64 (l.backT t k).2.1.2, .int .i64 (l.backT t k).2.2])) := by
  unfold Tb.backT
  cases hx : l.at_ t with
  | none => exact dtBack_none h t k hx
  | some x =>
    dsimp only
    by_cases hk : k < 0 ∨ x.marks.length ≤ k
    · rw [if_pos hk]; exact dtBack_bad h t k hx hk
    · rw [if_neg hk]
      obtain ⟨j, rfl⟩ : ∃ j : Nat, k = j := ⟨k.toNat, by omega⟩
      have hj : j < x.marks.length := by omega
      rw [Int.toNat_natCast]
      have hp : x.marks[j]? = some (x.marks.getD j (0, 0)) := by rw [List.getD_eq_getElem?_getD, List.getElem?_eq_getElem hj]; rfl
      exact dtBack_new h t j hx hp
end
end Go.Proofs.Ytfbghdkbimnnbaa
