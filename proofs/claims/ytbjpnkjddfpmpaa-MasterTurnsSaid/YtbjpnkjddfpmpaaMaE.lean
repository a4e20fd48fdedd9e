/- Package master: what eight bytes tell. -/
import Derived.Test.YtbjpnkjddfpmpaaMaD
import Derived.Test.YtbjpnkjddfpmpaaNum4
namespace Go.Proofs.Ytbjpnkjddfpmpaa
open Go.RowKit

/-- Eight bytes being read. -/
structure Telling (w W : World) (bs : List UInt8) : Prop where
  below : Below w.heap.size w W
  box : Blk W w.heap.size 61 (bytesV bs)
  res : Blk W (w.heap.size + 1) 30 #[.int .i64 0, .int .i64 0]
namespace Telling
variable {w W W' : World} {bs : List UInt8}
theorem start : Telling w ((w.alloc (.cells (bytesV bs) 61)).alloc (.cells #[.int .i64 0, .int .i64 0] 30)) bs := by
  refine ⟨((Below.refl _ _).alloc (Nat.le_refl _) _).alloc (by simp) _, (Blk.new _ _ _).alloc _, ?_⟩
  have h := Blk.new (w.alloc (.cells (bytesV bs) 61)) 30 #[.int .i64 0, .int .i64 0]
  simp only [World.size_alloc] at h
  exact h
theorem drew (h : Telling w W bs) : Telling w W.drew bs := ⟨h.below.drew, h.box, h.res⟩
theorem more (h : Telling w W bs) (hb : Below W.heap.size W W') : Telling w W' bs := ⟨below2 h.below hb, h.box.keep hb h.box.lt, h.res.keep hb h.res.lt⟩
theorem at_ (h : Telling w W bs) (i : Nat) (b : UInt8) (hi : bs[i]? = some b) : W.cell? ⟨w.heap.size, i, none⟩ = some (.int .u8 b.toNat) := by
  rw [h.box.cell]
  simp [bytesV, hi]
end Telling
set_option maxRecDepth 100000 in
set_option maxHeartbeats 8000000 in
theorem maMaster_any (b0 b1 b2 b3 b4 b5 b6 b7 : UInt8) (w : World) :
    Calls Try.prog 36 #[.agg (bytesV [b0, b1, b2, b3, b4, b5, b6, b7])] w fun e w' => e = .returned (.agg #[.int .i64 (num4 [b0, b1, b2, b3] : Nat), .int .i64 (num4 [b4, b5, b6, b7] : Nat)]) ∧ Below w.heap.size w w' := by
  have H0 := Lib.hid (Telling.start (w := w) (bs := [b0, b1, b2, b3, b4, b5, b6, b7]))
  have t0 := b0.toNat_lt
  have t1 := b1.toNat_lt
  have t2 := b2.toNat_lt
  have t3 := b3.toNat_lt
  have t4 := b4.toNat_lt
  have t5 := b5.toNat_lt
  have t6 := b6.toNat_lt
  have t7 := b7.toNat_lt
  have hX1 : Hid (bits .or .u32 0 (b0.toNat : Int) = (b0.toNat : Int)) := Lib.hid (by have := u32_or_nat 0 b0.toNat (by omega) (by omega); simpa using this)
  have hY1 : Hid (bits .or .u32 0 (b4.toNat : Int) = (b4.toNat : Int)) := Lib.hid (by have := u32_or_nat 0 b4.toNat (by omega) (by omega); simpa using this)
  obtain ⟨x2, ex2⟩ : ∃ x, x = b0.toNat * 256 + b1.toNat := ⟨_, rfl⟩
  obtain ⟨y2, ey2⟩ : ∃ x, x = b4.toNat * 256 + b5.toNat := ⟨_, rfl⟩
  obtain ⟨x3, ex3⟩ : ∃ x, x = x2 * 256 + b2.toNat := ⟨_, rfl⟩
  obtain ⟨y3, ey3⟩ : ∃ x, x = y2 * 256 + b6.toNat := ⟨_, rfl⟩
  obtain ⟨x4, ex4⟩ : ∃ x, x = x3 * 256 + b3.toNat := ⟨_, rfl⟩
  obtain ⟨y4, ey4⟩ : ∃ x, x = y3 * 256 + b7.toNat := ⟨_, rfl⟩
  have hX2 : Hid (bits .or .u32 ((b0.toNat : Int) * 256 % 4294967296) (b1.toNat : Int) = (x2 : Int)) := Lib.hid (by have := or_u32 b0.toNat b1.toNat (by omega) (by omega); rw [this, ex2])
  have hY2 : Hid (bits .or .u32 ((b4.toNat : Int) * 256 % 4294967296) (b5.toNat : Int) = (y2 : Int)) := Lib.hid (by have := or_u32 b4.toNat b5.toNat (by omega) (by omega); rw [this, ey2])
  have hX3 : Hid (bits .or .u32 ((x2 : Int) * 256 % 4294967296) (b2.toNat : Int) = (x3 : Int)) := Lib.hid (by rw [ex3]; exact or_u32 x2 b2.toNat (by omega) (by omega))
  have hY3 : Hid (bits .or .u32 ((y2 : Int) * 256 % 4294967296) (b6.toNat : Int) = (y3 : Int)) := Lib.hid (by rw [ey3]; exact or_u32 y2 b6.toNat (by omega) (by omega))
  have hX4 : Hid (bits .or .u32 ((x3 : Int) * 256 % 4294967296) (b3.toNat : Int) = (x4 : Int)) := Lib.hid (by rw [ex4]; exact or_u32 x3 b3.toNat (by omega) (by omega))
  have hY4 : Hid (bits .or .u32 ((y3 : Int) * 256 % 4294967296) (b7.toNat : Int) = (y4 : Int)) := Lib.hid (by rw [ey4]; exact or_u32 y3 b7.toNat (by omega) (by omega))
  have hXE : Hid (x4 = num4 [b0, b1, b2, b3] ∧ x4 < 4294967296) := ⟨by simp only [num4, List.getD_cons_zero, List.getD_cons_succ]; omega, by omega⟩
  have hYE : Hid (y4 = num4 [b4, b5, b6, b7] ∧ y4 < 4294967296) := ⟨by simp only [num4, List.getD_cons_zero, List.getD_cons_succ]; omega, by omega⟩
  clear ex2 ey2 ex3 ey3 ex4 ey4
  clear t0 t1 t2 t3 t4 t5 t6 t7
  go_enter Try.func36, Try.ntmps36
  go_wp2_with fail
  change Code.wp _ _ _ _ ((w.alloc (.cells (bytesV [b0, b1, b2, b3, b4, b5, b6, b7]) 61)).alloc (.cells #[.int .i64 0, .int .i64 0] 30))
  have H0' := H0
  clear H0
  have H0 := H0'
  clear H0'
  generalize ((w.alloc (.cells (bytesV [b0, b1, b2, b3, b4, b5, b6, b7]) 61)).alloc (.cells #[.int .i64 0, .int .i64 0] 30)) = w10 at *
  refine wp_loop_rounds 5 ?_
  rw [rounds_succ]
  go_upto_region 5 with fail
  have R0 : Hid (∀ W, Below w10.drew.heap.size w10.drew W → W.cell? ⟨w.heap.size, 0, none⟩ = some (.int .u8 b0.toNat) ∧ W.cell? ⟨w.heap.size, 4, none⟩ = some (.int .u8 b4.toNat) ∧ (b0.toNat : Int) < 256 ∧ (b4.toNat : Int) < 256) := fun W hW =>
    have := H0.out.drew.more hW
    ⟨this.at_ 0 b0 rfl, this.at_ 4 b4 rfl, by have := b0.toNat_lt; omega, by have := b4.toNat_lt; omega⟩
  refine' wp_region_conf 17 (.is _ :: .is _ :: .is _ :: .is _ :: .is _ :: .is _ :: .is _ :: .is _ :: .is _ :: .is _ :: .is _ :: .is _ :: .is _ :: .is _ :: .is _ :: .is _ :: .is _ :: []) (by kernel_rfl) (by kernel_rfl) (by kernel_rfl) (by kernel_rfl) rfl ?main
  case main =>
    iterate 17
      refine obs_is (fun w4 hE4 _ => ?_) ?_
      · obtain ⟨q1, q2, q3, q4⟩ := R0.out w4 hE4
        go_wp2
        first | (rw [hX1.out]; exact post_is (Below.refl _ _)) | (rw [hY1.out]; exact post_is (Below.refl _ _)) | exact post_is (Below.refl _ _)
      simp only [Act.put, List.setIfInBounds_toArray, List.set_cons_zero, List.set_cons_succ]
    refine obs_end fun w5 hE5 _ => ?_
    have H1 := Lib.hid (H0.out.drew.more hE5)
    clear hE5 R0 H0 hX1 hY1
    change wpList _ _ _ _ _ _
    go_wp2_with fail
    generalize w5 = w11 at *
    rw [rounds_succ]
    go_upto_region 5 with fail
    have R1 : Hid (∀ W, Below w11.drew.heap.size w11.drew W → W.cell? ⟨w.heap.size, 1, none⟩ = some (.int .u8 b1.toNat) ∧ W.cell? ⟨w.heap.size, 5, none⟩ = some (.int .u8 b5.toNat) ∧ (b1.toNat : Int) < 256 ∧ (b5.toNat : Int) < 256) := fun W hW =>
      have := H1.out.drew.more hW
      ⟨this.at_ 1 b1 rfl, this.at_ 5 b5 rfl, by have := b1.toNat_lt; omega, by have := b5.toNat_lt; omega⟩
    refine' wp_region_conf 17 (.is _ :: .is _ :: .is _ :: .is _ :: .is _ :: .is _ :: .is _ :: .is _ :: .is _ :: .is _ :: .is _ :: .is _ :: .is _ :: .is _ :: .is _ :: .is _ :: .is _ :: []) (by kernel_rfl) (by kernel_rfl) (by kernel_rfl) (by kernel_rfl) rfl ?main
    case main =>
      iterate 17
        refine obs_is (fun w4 hE4 _ => ?_) ?_
        · obtain ⟨q1, q2, q3, q4⟩ := R1.out w4 hE4
          go_wp2
          first | (rw [hX2.out]; exact post_is (Below.refl _ _)) | (rw [hY2.out]; exact post_is (Below.refl _ _)) | exact post_is (Below.refl _ _)
        simp only [Act.put, List.setIfInBounds_toArray, List.set_cons_zero, List.set_cons_succ]
      refine obs_end fun w5 hE5 _ => ?_
      have H2 := Lib.hid (H1.out.drew.more hE5)
      clear hE5 R1 H1 hX2 hY2
      change wpList _ _ _ _ _ _
      go_wp2_with fail
      generalize w5 = w12 at *
      rw [rounds_succ]
      go_upto_region 5 with fail
      have R2 : Hid (∀ W, Below w12.drew.heap.size w12.drew W → W.cell? ⟨w.heap.size, 2, none⟩ = some (.int .u8 b2.toNat) ∧ W.cell? ⟨w.heap.size, 6, none⟩ = some (.int .u8 b6.toNat) ∧ (b2.toNat : Int) < 256 ∧ (b6.toNat : Int) < 256) := fun W hW =>
        have := H2.out.drew.more hW
        ⟨this.at_ 2 b2 rfl, this.at_ 6 b6 rfl, by have := b2.toNat_lt; omega, by have := b6.toNat_lt; omega⟩
      refine' wp_region_conf 17 (.is _ :: .is _ :: .is _ :: .is _ :: .is _ :: .is _ :: .is _ :: .is _ :: .is _ :: .is _ :: .is _ :: .is _ :: .is _ :: .is _ :: .is _ :: .is _ :: .is _ :: []) (by kernel_rfl) (by kernel_rfl) (by kernel_rfl) (by kernel_rfl) rfl ?main
      case main =>
        iterate 17
          refine obs_is (fun w4 hE4 _ => ?_) ?_
          · obtain ⟨q1, q2, q3, q4⟩ := R2.out w4 hE4
            go_wp2
            first | (rw [hX3.out]; exact post_is (Below.refl _ _)) | (rw [hY3.out]; exact post_is (Below.refl _ _)) | exact post_is (Below.refl _ _)
          simp only [Act.put, List.setIfInBounds_toArray, List.set_cons_zero, List.set_cons_succ]
        refine obs_end fun w5 hE5 _ => ?_
        have H3 := Lib.hid (H2.out.drew.more hE5)
        clear hE5 R2 H2 hX3 hY3
        change wpList _ _ _ _ _ _
        go_wp2_with fail
        generalize w5 = w13 at *
        rw [rounds_succ]
        go_upto_region 5 with fail
        have R3 : Hid (∀ W, Below w13.drew.heap.size w13.drew W → W.cell? ⟨w.heap.size, 3, none⟩ = some (.int .u8 b3.toNat) ∧ W.cell? ⟨w.heap.size, 7, none⟩ = some (.int .u8 b7.toNat) ∧ (b3.toNat : Int) < 256 ∧ (b7.toNat : Int) < 256) := fun W hW =>
          have := H3.out.drew.more hW
          ⟨this.at_ 3 b3 rfl, this.at_ 7 b7 rfl, by have := b3.toNat_lt; omega, by have := b7.toNat_lt; omega⟩
        refine' wp_region_conf 17 (.is _ :: .is _ :: .is _ :: .is _ :: .is _ :: .is _ :: .is _ :: .is _ :: .is _ :: .is _ :: .is _ :: .is _ :: .is _ :: .is _ :: .is _ :: .is _ :: .is _ :: []) (by kernel_rfl) (by kernel_rfl) (by kernel_rfl) (by kernel_rfl) rfl ?main
        case main =>
          iterate 17
            refine obs_is (fun w4 hE4 _ => ?_) ?_
            · obtain ⟨q1, q2, q3, q4⟩ := R3.out w4 hE4
              go_wp2
              first | (rw [hX4.out]; exact post_is (Below.refl _ _)) | (rw [hY4.out]; exact post_is (Below.refl _ _)) | exact post_is (Below.refl _ _)
            simp only [Act.put, List.setIfInBounds_toArray, List.set_cons_zero, List.set_cons_succ]
          refine obs_end fun w5 hE5 _ => ?_
          have H4 := Lib.hid (H3.out.drew.more hE5)
          clear hE5 R3 H3 hX4 hY4
          change wpList _ _ _ _ _ _
          go_wp2_with fail
          generalize w5 = w14 at *
          rw [rounds_succ]
          go_upto_region 7 with fail
          have hB := H4.out.below
          have O := H4.out.res
          clear H4
          obtain ⟨eX, lX⟩ := hXE.out
          obtain ⟨eY, lY⟩ := hYE.out
          have iX : IntKind.i64.wrap (x4 : Int) = x4 := by rw [IntKind.wrap_i64]; omega
          have iY : IntKind.i64.wrap (y4 : Int) = y4 := by rw [IntKind.wrap_i64]; omega
          clear lX lY eX eY
          go_wp2_with (refine wpList_store_row rfl 30 _ _ rfl (w.heap.size + 1) _ rfl rfl 30 _ O (by kernel_rfl) (by simp) (by simp [Value.oneCell']) ?_)
          exact bodyPost_ret (results_cell_row rfl _ _ (w.heap.size + 1) 30 _ (0, 0) _ rfl (O.setRow _) Try.underlying30 rfl (by kernel_rfl)) rfl ⟨by rw [← hXE.out.1, ← hYE.out.1], below_setRow hB (by omega) _⟩
end Go.Proofs.Ytbjpnkjddfpmpaa
