/- Package master: has, right, lay, and what eight bytes tell. -/
import Derived.Test.YtbjpnkjddfpmpaaMaC
import Derived.Test.YtbjpnkjddfpmpaaRegionT
namespace Go.Proofs.Ytbjpnkjddfpmpaa
open Go.RowKit

section
variable {w : World} {F : Foot} {g : Nat} {D : Dk}
set_option maxRecDepth 100000 in
set_option maxHeartbeats 1000000 in
theorem maHas_any (h : IsDisk w F g D) (b : Int) (y : Bool) (hy : y = decide (Cd.fits D b)) :
    Calls Try.prog 19 #[.pointer (some ⟨g, 0, none⟩), .int .i64 b] w fun e w' => e = .returned (.bool y) ∧ w = w' := by
  have HS := Lib.hid (size_any h)
  have h1 := h.1.pos
  have h2 := h.1.le
  have hF : Hid (y = (decide (0 ≤ b) && decide (b ≤ (D.safe.length : Int) - 2))) := by
    rw [Hid, hy]
    unfold Cd.fits
    by_cases c1 : 0 ≤ b <;> by_cases c2 : b ≤ (D.safe.length : Int) - 2 <;> simp [c1, c2] <;> omega
  clear h hy
  go_enter Try.func19, Try.ntmps19
  by_cases c1 : 0 ≤ b
  · go_wp2_with fail
    refine HS.out.mono ?_
    rintro e w1 ⟨rfl, rfl⟩
    go_wp2
    go_ret
    exact ⟨by rw [hF.out, decide_eq_true c1, Bool.true_and]; rfl, rfl⟩
  · go_wp2
    go_ret
    exact ⟨by rw [hF.out, decide_eq_false (by omega), Bool.false_and]; rfl, rfl⟩
end
def msV (m : Ms) : Value := .agg #[.int .i64 m.check, .int .i64 m.low]
def msC (m : Ms) : Array Value := #[.int .i64 m.check, .int .i64 m.low]
set_option maxRecDepth 100000 in
set_option maxHeartbeats 1000000 in
theorem maRight_any (c l : Int) (w : World) (y : Bool) (hy : y = decide (Ms.May ⟨c, l⟩)) :
    Calls Try.prog 22 #[.agg #[.int .i64 c, .int .i64 l]] w fun e w' => e = .returned (.bool y) ∧ Below w.heap.size w w' := by
  have hY : Hid (y = (decide (0 ≤ c) && decide (c ≤ 2147483647) && decide (1 ≤ l) && decide (l ≤ 2147483647))) := by
    rw [Hid, hy]
    unfold Ms.May
    by_cases c1 : 0 ≤ c <;> by_cases c2 : c ≤ 2147483647 <;> by_cases c3 : 1 ≤ l <;> by_cases c4 : l ≤ 2147483647 <;> simp [c1, c2, c3, c4]
  clear hy
  have hB := (Below.refl w.heap.size w).alloc (Nat.le_refl _) (.cells #[.int .i64 c, .int .i64 l] 30)
  have HB := Lib.hid hB
  clear hB
  by_cases c1 : 0 ≤ c
  · by_cases c2 : c ≤ 2147483647
    · by_cases c3 : 1 ≤ l
      · by_cases c4 : l ≤ 2147483647
        all_goals
          go_enter Try.func22, Try.ntmps22
          go_wp2
          go_ret
          exact ⟨by rw [hY.out]; simp [c1, c2, c3, c4], HB.out⟩
      · go_enter Try.func22, Try.ntmps22
        go_wp2
        go_ret
        exact ⟨by rw [hY.out]; simp [c1, c2]; omega, HB.out⟩
    · go_enter Try.func22, Try.ntmps22
      go_wp2
      go_ret
      exact ⟨by rw [hY.out]; simp [c1]; omega, HB.out⟩
  · go_enter Try.func22, Try.ntmps22
    go_wp2
    go_ret
    exact ⟨by rw [hY.out]; simp; omega, HB.out⟩

/-- The eight bytes being laid. -/
structure Laying (w W : World) (c l : Int) (bs : List UInt8) : Prop where
  below : Below w.heap.size w W
  box : Blk W w.heap.size 30 #[.int .i64 c, .int .i64 l]
  res : Blk W (w.heap.size + 1) 61 (bytesV [0, 0, 0, 0, 0, 0, 0, 0])
  row : Blk W (w.heap.size + 2) 61 (bytesV bs)
namespace Laying
variable {w W W' : World} {c l : Int} {bs : List UInt8}
theorem start : Laying w (((w.alloc (.cells #[.int .i64 c, .int .i64 l] 30)).alloc (.cells (bytesV [0, 0, 0, 0, 0, 0, 0, 0]) 61)).alloc (.cells (bytesV [0, 0, 0, 0, 0, 0, 0, 0]) 61)) c l [0, 0, 0, 0, 0, 0, 0, 0] := by
  refine ⟨(((Below.refl _ _).alloc (Nat.le_refl _) _).alloc (by simp) _).alloc (by simp; omega) _, ((Blk.new _ _ _).alloc _).alloc _, ?_, ?_⟩
  · have h := (Blk.new (w.alloc (.cells #[.int .i64 c, .int .i64 l] 30)) 61 (bytesV [0, 0, 0, 0, 0, 0, 0, 0])).alloc (.cells (bytesV [0, 0, 0, 0, 0, 0, 0, 0]) 61)
    simp only [World.size_alloc] at h
    exact h
  · have h := Blk.new ((w.alloc (.cells #[.int .i64 c, .int .i64 l] 30)).alloc (.cells (bytesV [0, 0, 0, 0, 0, 0, 0, 0]) 61)) 61 (bytesV [0, 0, 0, 0, 0, 0, 0, 0])
    simp only [World.size_alloc] at h
    exact h
theorem drew (h : Laying w W c l bs) : Laying w W.drew c l bs := ⟨h.below.drew, h.box, h.res, h.row⟩
theorem c0 (h : Laying w W c l bs) : W.cell? ⟨w.heap.size, 0, none⟩ = some (.int .i64 c) := h.box.cell 0
theorem c1 (h : Laying w W c l bs) : W.cell? ⟨w.heap.size, 1, none⟩ = some (.int .i64 l) := h.box.cell 1
theorem sets (h : Laying w W c l bs) (i : Nat) (x : Nat) (v : Int) (hv : v = (x : Int) % 256) : Laying w (W.setCell ⟨w.heap.size + 2, i, none⟩ (.int .u8 v)) c l (bs.set i (UInt8.ofNat x)) := by
  have far : ∀ b, b ≠ w.heap.size + 2 → (W.setCell ⟨w.heap.size + 2, i, none⟩ (.int .u8 v)).heap[b]? = W.heap[b]? := fun b hb => heap_setCell_other W ⟨w.heap.size + 2, i, none⟩ b _ hb
  exact ⟨h.below.setCell (by simp) _, (far _ (by omega)).trans h.box, (far _ (by omega)).trans h.res, h.row.setB i x v hv⟩
theorem more (h : Laying w W c l bs) (hb : Below W.heap.size W W') : Laying w W' c l bs := ⟨below2 h.below hb, h.box.keep hb h.box.lt, h.res.keep hb h.res.lt, h.row.keep hb h.row.lt⟩
end Laying
theorem bytesV_one12 (l : List UInt8) : (bytesV l).all (·.oneCell') = true := by simp [bytesV, Value.oneCell']
set_option maxRecDepth 100000 in
set_option maxHeartbeats 4000000 in
theorem maLay_any (c l : Nat) (w : World) (hc : c ≤ 2147483647) (hl : l ≤ 2147483647) :
    Calls Try.prog 23 #[.agg #[.int .i64 c, .int .i64 l]] w fun e w' => e = .returned (.agg (bytesV (be4 c ++ be4 l))) ∧ Below w.heap.size w w' := by
  have H0 := Lib.hid (Laying.start (w := w) (c := c) (l := l))
  go_enter Try.func23, Try.ntmps23
  go_wp2_with fail
  change Code.wp _ _ _ _ (((w.alloc (.cells #[.int .i64 c, .int .i64 l] 30)).alloc (.cells (bytesV [0, 0, 0, 0, 0, 0, 0, 0]) 61)).alloc (.cells (bytesV [0, 0, 0, 0, 0, 0, 0, 0]) 61))
  generalize (((w.alloc (.cells #[.int .i64 c, .int .i64 l] 30)).alloc (.cells (bytesV [0, 0, 0, 0, 0, 0, 0, 0]) 61)).alloc (.cells (bytesV [0, 0, 0, 0, 0, 0, 0, 0]) 61)) = w10 at *
  refine wp_loop_rounds 5 ?_
  rw [rounds_succ]
  go_upto_region 6 with fail
  have R0 : Hid (∀ W, Spare (· = w.heap.size + 2) w10.drew W → W.cell? ⟨w.heap.size, 0, none⟩ = some (.int .i64 c) ∧ W.cell? ⟨w.heap.size, 1, none⟩ = some (.int .i64 l)) := fun W hW =>
    have := hW.keep H0.out.drew.box (fun e => by omega)
    ⟨this.cell 0, this.cell 1⟩
  have T0 : Hid (∀ W, Laying w W c l [0, 0, 0, 0, 0, 0, 0, 0] → (∃ v, W.cell? ⟨w.heap.size + 2, 0, none⟩ = some v) ∧ W.frozen? ⟨w.heap.size + 2, 0, none⟩ = false ∧ Laying w (W.setCell ⟨w.heap.size + 2, 0, none⟩ (.int .u8 ((c : Int) / 16777216))) c l [UInt8.ofNat (c / 16777216), 0, 0, 0, 0, 0, 0, 0]) := fun W hW => ⟨⟨_, hW.row.cellAt (by simp [bytesV])⟩, hW.row.frozen 0, hW.sets 0 (c / 16777216) _ (by omega)⟩
  have U0 : Hid (∀ W, Laying w W c l [UInt8.ofNat (c / 16777216), 0, 0, 0, 0, 0, 0, 0] → (∃ v, W.cell? ⟨w.heap.size + 2, 4, none⟩ = some v) ∧ W.frozen? ⟨w.heap.size + 2, 4, none⟩ = false ∧ Laying w (W.setCell ⟨w.heap.size + 2, 4, none⟩ (.int .u8 ((l : Int) / 16777216))) c l [UInt8.ofNat (c / 16777216), 0, 0, 0, UInt8.ofNat (l / 16777216), 0, 0, 0]) := fun W hW => ⟨⟨_, hW.row.cellAt (by simp [bytesV])⟩, hW.row.frozen 4, hW.sets 4 (l / 16777216) _ (by omega)⟩
  refine' wp_region_late 16 14 (· = w.heap.size + 2) (fun W => Laying w W c l [0, 0, 0, 0, 0, 0, 0, 0]) (fun W => Laying w W c l [UInt8.ofNat (c / 16777216), 0, 0, 0, 0, 0, 0, 0]) (_ :: _ :: _ :: _ :: _ :: _ :: _ :: _ :: _ :: _ :: _ :: _ :: _ :: _ :: undef :: _ :: []) (by kernel_rfl) (by kernel_rfl) (by kernel_rfl) (by kernel_rfl) (by kernel_rfl) rfl H0.out (fun W W' hb h => h.more hb) (fun W W' hb h => h.more hb) ?main
  case main =>

    iterate 14
      refine obsT_is (by decide) (fun w4 hE4 => ?_) ?_
      · obtain ⟨q1, q2⟩ := R0.out w4 hE4
        go_wp2
        exact postT_is (Below.refl _ _)
      simp only [Act.put, List.setIfInBounds_toArray, List.set_cons_zero, List.set_cons_succ]
    refine obsT_store (fun w4 hE4 r4 => ?_) ?_
    · obtain ⟨⟨v4, c4⟩, f4, n4⟩ := T0.out w4 r4
      clear r4
      go_wp2
      exact postT_stored (Spare.setCell (S := (· = w.heap.size + 2)) rfl _) n4
    simp only [Act.put]
    refine obsT_is (by decide) (fun w4 hE4 => ?_) ?_
    · go_wp2
      exact postT_is (Below.refl _ _)
    simp only [Act.put, List.setIfInBounds_toArray, List.set_cons_zero, List.set_cons_succ]
    refine obsT_end fun w5 hE5 r5 => ?_
    obtain ⟨⟨v5, c5⟩, f5, n5⟩ := U0.out w5 r5
    have H1 := Lib.hid n5
    clear hE5 r5 n5 R0 T0 U0 H0
    change wpList _ _ _ _ _ _
    go_wp2_with fail
    generalize w5.setCell ⟨w.heap.size + 1 + 1, 4, none⟩ (.int .u8 ((l : Int) / 16777216)) = w11 at *
    clear c5 f5
    rw [rounds_succ]
    go_upto_region 6 with fail
    have R1 : Hid (∀ W, Spare (· = w.heap.size + 2) w11.drew W → W.cell? ⟨w.heap.size, 0, none⟩ = some (.int .i64 c) ∧ W.cell? ⟨w.heap.size, 1, none⟩ = some (.int .i64 l)) := fun W hW =>
      have := hW.keep H1.out.drew.box (fun e => by omega)
      ⟨this.cell 0, this.cell 1⟩
    have T1 : Hid (∀ W, Laying w W c l [UInt8.ofNat (c / 16777216), 0, 0, 0, UInt8.ofNat (l / 16777216), 0, 0, 0] → (∃ v, W.cell? ⟨w.heap.size + 2, 1, none⟩ = some v) ∧ W.frozen? ⟨w.heap.size + 2, 1, none⟩ = false ∧ Laying w (W.setCell ⟨w.heap.size + 2, 1, none⟩ (.int .u8 ((c : Int) / 65536 % 256))) c l [UInt8.ofNat (c / 16777216), UInt8.ofNat (c / 65536), 0, 0, UInt8.ofNat (l / 16777216), 0, 0, 0]) := fun W hW => ⟨⟨_, hW.row.cellAt (by simp [bytesV])⟩, hW.row.frozen 1, hW.sets 1 (c / 65536) _ (by omega)⟩
    have U1 : Hid (∀ W, Laying w W c l [UInt8.ofNat (c / 16777216), UInt8.ofNat (c / 65536), 0, 0, UInt8.ofNat (l / 16777216), 0, 0, 0] → (∃ v, W.cell? ⟨w.heap.size + 2, 5, none⟩ = some v) ∧ W.frozen? ⟨w.heap.size + 2, 5, none⟩ = false ∧ Laying w (W.setCell ⟨w.heap.size + 2, 5, none⟩ (.int .u8 ((l : Int) / 65536 % 256))) c l [UInt8.ofNat (c / 16777216), UInt8.ofNat (c / 65536), 0, 0, UInt8.ofNat (l / 16777216), UInt8.ofNat (l / 65536), 0, 0]) := fun W hW => ⟨⟨_, hW.row.cellAt (by simp [bytesV])⟩, hW.row.frozen 5, hW.sets 5 (l / 65536) _ (by omega)⟩
    refine' wp_region_late 16 14 (· = w.heap.size + 2) (fun W => Laying w W c l [UInt8.ofNat (c / 16777216), 0, 0, 0, UInt8.ofNat (l / 16777216), 0, 0, 0]) (fun W => Laying w W c l [UInt8.ofNat (c / 16777216), UInt8.ofNat (c / 65536), 0, 0, UInt8.ofNat (l / 16777216), 0, 0, 0]) (_ :: _ :: _ :: _ :: _ :: _ :: _ :: _ :: _ :: _ :: _ :: _ :: _ :: _ :: undef :: _ :: []) (by kernel_rfl) (by kernel_rfl) (by kernel_rfl) (by kernel_rfl) (by kernel_rfl) rfl H1.out (fun W W' hb h => h.more hb) (fun W W' hb h => h.more hb) ?main
    case main =>
  
      iterate 14
        refine obsT_is (by decide) (fun w4 hE4 => ?_) ?_
        · obtain ⟨q1, q2⟩ := R1.out w4 hE4
          go_wp2
          exact postT_is (Below.refl _ _)
        simp only [Act.put, List.setIfInBounds_toArray, List.set_cons_zero, List.set_cons_succ]
      refine obsT_store (fun w4 hE4 r4 => ?_) ?_
      · obtain ⟨⟨v4, c4⟩, f4, n4⟩ := T1.out w4 r4
        clear r4
        go_wp2
        exact postT_stored (Spare.setCell (S := (· = w.heap.size + 2)) rfl _) n4
      simp only [Act.put]
      refine obsT_is (by decide) (fun w4 hE4 => ?_) ?_
      · go_wp2
        exact postT_is (Below.refl _ _)
      simp only [Act.put, List.setIfInBounds_toArray, List.set_cons_zero, List.set_cons_succ]
      refine obsT_end fun w5 hE5 r5 => ?_
      obtain ⟨⟨v5, c5⟩, f5, n5⟩ := U1.out w5 r5
      have H2 := Lib.hid n5
      clear hE5 r5 n5 R1 T1 U1 H1
      change wpList _ _ _ _ _ _
      go_wp2_with fail
      generalize w5.setCell ⟨w.heap.size + 1 + 1, 5, none⟩ (.int .u8 ((l : Int) / 65536 % 256)) = w12 at *
      clear c5 f5
      rw [rounds_succ]
      go_upto_region 6 with fail
      have R2 : Hid (∀ W, Spare (· = w.heap.size + 2) w12.drew W → W.cell? ⟨w.heap.size, 0, none⟩ = some (.int .i64 c) ∧ W.cell? ⟨w.heap.size, 1, none⟩ = some (.int .i64 l)) := fun W hW =>
        have := hW.keep H2.out.drew.box (fun e => by omega)
        ⟨this.cell 0, this.cell 1⟩
      have T2 : Hid (∀ W, Laying w W c l [UInt8.ofNat (c / 16777216), UInt8.ofNat (c / 65536), 0, 0, UInt8.ofNat (l / 16777216), UInt8.ofNat (l / 65536), 0, 0] → (∃ v, W.cell? ⟨w.heap.size + 2, 2, none⟩ = some v) ∧ W.frozen? ⟨w.heap.size + 2, 2, none⟩ = false ∧ Laying w (W.setCell ⟨w.heap.size + 2, 2, none⟩ (.int .u8 ((c : Int) / 256 % 256))) c l [UInt8.ofNat (c / 16777216), UInt8.ofNat (c / 65536), UInt8.ofNat (c / 256), 0, UInt8.ofNat (l / 16777216), UInt8.ofNat (l / 65536), 0, 0]) := fun W hW => ⟨⟨_, hW.row.cellAt (by simp [bytesV])⟩, hW.row.frozen 2, hW.sets 2 (c / 256) _ (by omega)⟩
      have U2 : Hid (∀ W, Laying w W c l [UInt8.ofNat (c / 16777216), UInt8.ofNat (c / 65536), UInt8.ofNat (c / 256), 0, UInt8.ofNat (l / 16777216), UInt8.ofNat (l / 65536), 0, 0] → (∃ v, W.cell? ⟨w.heap.size + 2, 6, none⟩ = some v) ∧ W.frozen? ⟨w.heap.size + 2, 6, none⟩ = false ∧ Laying w (W.setCell ⟨w.heap.size + 2, 6, none⟩ (.int .u8 ((l : Int) / 256 % 256))) c l [UInt8.ofNat (c / 16777216), UInt8.ofNat (c / 65536), UInt8.ofNat (c / 256), 0, UInt8.ofNat (l / 16777216), UInt8.ofNat (l / 65536), UInt8.ofNat (l / 256), 0]) := fun W hW => ⟨⟨_, hW.row.cellAt (by simp [bytesV])⟩, hW.row.frozen 6, hW.sets 6 (l / 256) _ (by omega)⟩
      refine' wp_region_late 16 14 (· = w.heap.size + 2) (fun W => Laying w W c l [UInt8.ofNat (c / 16777216), UInt8.ofNat (c / 65536), 0, 0, UInt8.ofNat (l / 16777216), UInt8.ofNat (l / 65536), 0, 0]) (fun W => Laying w W c l [UInt8.ofNat (c / 16777216), UInt8.ofNat (c / 65536), UInt8.ofNat (c / 256), 0, UInt8.ofNat (l / 16777216), UInt8.ofNat (l / 65536), 0, 0]) (_ :: _ :: _ :: _ :: _ :: _ :: _ :: _ :: _ :: _ :: _ :: _ :: _ :: _ :: undef :: _ :: []) (by kernel_rfl) (by kernel_rfl) (by kernel_rfl) (by kernel_rfl) (by kernel_rfl) rfl H2.out (fun W W' hb h => h.more hb) (fun W W' hb h => h.more hb) ?main
      case main =>
    
        iterate 14
          refine obsT_is (by decide) (fun w4 hE4 => ?_) ?_
          · obtain ⟨q1, q2⟩ := R2.out w4 hE4
            go_wp2
            exact postT_is (Below.refl _ _)
          simp only [Act.put, List.setIfInBounds_toArray, List.set_cons_zero, List.set_cons_succ]
        refine obsT_store (fun w4 hE4 r4 => ?_) ?_
        · obtain ⟨⟨v4, c4⟩, f4, n4⟩ := T2.out w4 r4
          clear r4
          go_wp2
          exact postT_stored (Spare.setCell (S := (· = w.heap.size + 2)) rfl _) n4
        simp only [Act.put]
        refine obsT_is (by decide) (fun w4 hE4 => ?_) ?_
        · go_wp2
          exact postT_is (Below.refl _ _)
        simp only [Act.put, List.setIfInBounds_toArray, List.set_cons_zero, List.set_cons_succ]
        refine obsT_end fun w5 hE5 r5 => ?_
        obtain ⟨⟨v5, c5⟩, f5, n5⟩ := U2.out w5 r5
        have H3 := Lib.hid n5
        clear hE5 r5 n5 R2 T2 U2 H2
        change wpList _ _ _ _ _ _
        go_wp2_with fail
        generalize w5.setCell ⟨w.heap.size + 1 + 1, 6, none⟩ (.int .u8 ((l : Int) / 256 % 256)) = w13 at *
        clear c5 f5
        rw [rounds_succ]
        go_upto_region 6 with fail
        have R3 : Hid (∀ W, Spare (· = w.heap.size + 2) w13.drew W → W.cell? ⟨w.heap.size, 0, none⟩ = some (.int .i64 c) ∧ W.cell? ⟨w.heap.size, 1, none⟩ = some (.int .i64 l)) := fun W hW =>
          have := hW.keep H3.out.drew.box (fun e => by omega)
          ⟨this.cell 0, this.cell 1⟩
        have T3 : Hid (∀ W, Laying w W c l [UInt8.ofNat (c / 16777216), UInt8.ofNat (c / 65536), UInt8.ofNat (c / 256), 0, UInt8.ofNat (l / 16777216), UInt8.ofNat (l / 65536), UInt8.ofNat (l / 256), 0] → (∃ v, W.cell? ⟨w.heap.size + 2, 3, none⟩ = some v) ∧ W.frozen? ⟨w.heap.size + 2, 3, none⟩ = false ∧ Laying w (W.setCell ⟨w.heap.size + 2, 3, none⟩ (.int .u8 ((c : Int) % 256))) c l [UInt8.ofNat (c / 16777216), UInt8.ofNat (c / 65536), UInt8.ofNat (c / 256), UInt8.ofNat c, UInt8.ofNat (l / 16777216), UInt8.ofNat (l / 65536), UInt8.ofNat (l / 256), 0]) := fun W hW => ⟨⟨_, hW.row.cellAt (by simp [bytesV])⟩, hW.row.frozen 3, hW.sets 3 c _ (by omega)⟩
        have U3 : Hid (∀ W, Laying w W c l [UInt8.ofNat (c / 16777216), UInt8.ofNat (c / 65536), UInt8.ofNat (c / 256), UInt8.ofNat c, UInt8.ofNat (l / 16777216), UInt8.ofNat (l / 65536), UInt8.ofNat (l / 256), 0] → (∃ v, W.cell? ⟨w.heap.size + 2, 7, none⟩ = some v) ∧ W.frozen? ⟨w.heap.size + 2, 7, none⟩ = false ∧ Laying w (W.setCell ⟨w.heap.size + 2, 7, none⟩ (.int .u8 ((l : Int) % 256))) c l [UInt8.ofNat (c / 16777216), UInt8.ofNat (c / 65536), UInt8.ofNat (c / 256), UInt8.ofNat c, UInt8.ofNat (l / 16777216), UInt8.ofNat (l / 65536), UInt8.ofNat (l / 256), UInt8.ofNat l]) := fun W hW => ⟨⟨_, hW.row.cellAt (by simp [bytesV])⟩, hW.row.frozen 7, hW.sets 7 l _ (by omega)⟩
        refine' wp_region_late 16 14 (· = w.heap.size + 2) (fun W => Laying w W c l [UInt8.ofNat (c / 16777216), UInt8.ofNat (c / 65536), UInt8.ofNat (c / 256), 0, UInt8.ofNat (l / 16777216), UInt8.ofNat (l / 65536), UInt8.ofNat (l / 256), 0]) (fun W => Laying w W c l [UInt8.ofNat (c / 16777216), UInt8.ofNat (c / 65536), UInt8.ofNat (c / 256), UInt8.ofNat c, UInt8.ofNat (l / 16777216), UInt8.ofNat (l / 65536), UInt8.ofNat (l / 256), 0]) (_ :: _ :: _ :: _ :: _ :: _ :: _ :: _ :: _ :: _ :: _ :: _ :: _ :: _ :: undef :: _ :: []) (by kernel_rfl) (by kernel_rfl) (by kernel_rfl) (by kernel_rfl) (by kernel_rfl) rfl H3.out (fun W W' hb h => h.more hb) (fun W W' hb h => h.more hb) ?main
        case main =>
      
          iterate 14
            refine obsT_is (by decide) (fun w4 hE4 => ?_) ?_
            · obtain ⟨q1, q2⟩ := R3.out w4 hE4
              go_wp2
              exact postT_is (Below.refl _ _)
            simp only [Act.put, List.setIfInBounds_toArray, List.set_cons_zero, List.set_cons_succ]
          refine obsT_store (fun w4 hE4 r4 => ?_) ?_
          · obtain ⟨⟨v4, c4⟩, f4, n4⟩ := T3.out w4 r4
            clear r4
            go_wp2
            exact postT_stored (Spare.setCell (S := (· = w.heap.size + 2)) rfl _) n4
          simp only [Act.put]
          refine obsT_is (by decide) (fun w4 hE4 => ?_) ?_
          · go_wp2
            exact postT_is (Below.refl _ _)
          simp only [Act.put, List.setIfInBounds_toArray, List.set_cons_zero, List.set_cons_succ]
          refine obsT_end fun w5 hE5 r5 => ?_
          obtain ⟨⟨v5, c5⟩, f5, n5⟩ := U3.out w5 r5
          have H4 := Lib.hid n5
          clear hE5 r5 n5 R3 T3 U3 H3
          change wpList _ _ _ _ _ _
          go_wp2_with fail
          generalize w5.setCell ⟨w.heap.size + 1 + 1, 7, none⟩ (.int .u8 ((l : Int) % 256)) = w14 at *
          clear c5 f5
          rw [rounds_succ]
          go_upto_region 8 with fail
          have hB := H4.out.below
          have R := H4.out.row
          have O := H4.out.res
          clear H4
          have e8 : (be4 c ++ be4 l) = [UInt8.ofNat (c / 16777216), UInt8.ofNat (c / 65536), UInt8.ofNat (c / 256), UInt8.ofNat c, UInt8.ofNat (l / 16777216), UInt8.ofNat (l / 65536), UInt8.ofNat (l / 256), UInt8.ofNat l] := rfl
          rw [← e8] at R
          have S1 : Hid ((bytesV (be4 c ++ be4 l)).size = 8) := by rw [Hid, bytesV_size]; rfl
          have S2 : Hid ((bytesV [0, 0, 0, 0, 0, 0, 0, 0]).size = 8) := rfl
          have S3 : Hid ((bytesV (be4 c ++ be4 l)).all (·.oneCell') = true) := bytesV_one12 _
          clear e8
          obtain ⟨X, hX⟩ : ∃ X, Hid (X = bytesV (be4 c ++ be4 l)) := ⟨_, rfl⟩
          rw [← hX.out] at R S1 S3
          generalize bytesV [0, 0, 0, 0, 0, 0, 0, 0] = Z at *
          replace S1 := S1.out
          replace S2 := S2.out
          replace S3 := S3.out
          go_wp2_with (first
            | (refine wpList_load_row rfl 61 _ rfl (w.heap.size + 1 + 1) rfl 61 _ (0, 0) _ R Try.underlying61 rfl (by rw [S1]; kernel_rfl) ?_)
            | (refine wpList_store_row rfl 61 _ _ rfl (w.heap.size + 1) _ rfl rfl 61 _ O (by rw [S1]; kernel_rfl) (by rw [S1, S2]) S3 ?_))
          exact bodyPost_ret (results_cell_row rfl _ _ (w.heap.size + 1) 61 _ (0, 0) _ rfl (O.setRow _) Try.underlying61 rfl (by rw [S1]; kernel_rfl)) rfl ⟨by rw [hX.out], below_setRow hB (by omega) _⟩
end Go.Proofs.Ytbjpnkjddfpmpaa
