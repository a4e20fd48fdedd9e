/- Texts that belong together, joined: RpE, RpEb. -/
import Derived.Test.YtbplgbkbggmaeaaGreatKrpc
import Derived.Test.YtbplgbkbggmaeaaGreatKsob
namespace Go.Proofs.YtbplgbkbggmaeaaGreat
open Go.RowKit
section
variable {w : World} {F : Foot} {s gd base n t T : Nat} {D : Dk} {σ : Sg}
set_option maxRecDepth 100000 in
set_option maxHeartbeats 8000000 in
theorem rpRead_range (h : IsR7 w F s gd D base n t) (i : Int) (hi : i < 0 ∨ (n : Int) ≤ i) :
   Calls Tryz.prog 30 #[.pointer (some ⟨s, 0, none⟩), .int .i64 i] w fun e w' => e = .returned (.tuple #[.agg #[.int .i64 0, .string ⟨#[]⟩], .int .i64 2]) ∧ Below w.heap.size w w' := by
 have R0 := Blk.new w 45 #[.int .i64 0, .string ⟨#[]⟩]
 have B0 := (Below.refl w.heap.size w).alloc (Nat.le_refl _) (.cells #[.int .i64 0, .string ⟨#[]⟩] 45)
 obtain ⟨-, -, c2, -⟩ := (h.below B0).cells
 clear h
 by_cases h0 : i < 0
 · clear hi
   go_enter Tryz.func30, Tryz.ntmps30
   go_wp2_with (refine wpList_store_row rfl 45 _ _ rfl w.heap.size _ rfl rfl 45 _ R0 (by kernel_rfl) (by simp) (by simp [Value.oneCell']) ?_)
   exact bodyPost_ret (results_row_tmp rfl _ _ w.heap.size 45 _ _ rfl (R0.setRow _) Tryz.underlying45 rfl (by kernel_rfl)) rfl ⟨rfl, below_setRow B0 (Nat.le_refl _) _⟩
 · have h1 : (n : Int) ≤ i := by omega
   clear hi
   go_enter Tryz.func30, Tryz.ntmps30
   go_wp2_with (refine wpList_store_row rfl 45 _ _ rfl w.heap.size _ rfl rfl 45 _ R0 (by kernel_rfl) (by simp) (by simp [Value.oneCell']) ?_)
   exact bodyPost_ret (results_row_tmp rfl _ _ w.heap.size 45 _ _ rfl (R0.setRow _) Tryz.underlying45 rfl (by kernel_rfl)) rfl ⟨rfl, below_setRow B0 (Nat.le_refl _) _⟩
set_option maxRecDepth 100000 in
set_option maxHeartbeats 8000000 in
theorem rpRead_dead (h : IsR7 w F s gd D base n t) (hg : D.gone = true) {i : Nat} (hi : i < n) :
   Calls Tryz.prog 30 #[.pointer (some ⟨s, 0, none⟩), .int .i64 i] w fun e w' => e = .returned (.tuple #[.agg #[.int .i64 0, .string ⟨#[]⟩], .int .i64 4]) ∧ Below w.heap.size w w' := by
 have HR : Hid (∀ W, Below w.heap.size w W → Calls Tryz.prog 65 #[.pointer (some ⟨gd, 0, none⟩), .int .i64 ((base : Int) + 3 + 2 * (i : Int))] W fun e w' => e = .returned (.tuple #[.string ⟨#[]⟩, .int .i64 4]) ∧ W = w') := fun W hW => by
   have hx : D.reachE ((base : Int) + 3 + 2 * (i : Int)) = 4 := by unfold Dk.reachE; rw [if_pos hg]
   have := refRead_any h.ok (h.disk.below hW) ((base : Int) + 3 + 2 * (i : Int))
   unfold Dk.read at this
   rw [hx, if_neg (by decide)] at this
   exact this
 have R0' := Blk.new w 45 #[.int .i64 0, .string ⟨#[]⟩]
 have B0' := (Below.refl w.heap.size w).alloc (Nat.le_refl _) (.cells #[.int .i64 0, .string ⟨#[]⟩] 45)
 have C : Hid (∀ W, Below w.heap.size w W → W.cell? ⟨s, 0, none⟩ = some (.pointer (some ⟨gd, 0, none⟩)) ∧ W.cell? ⟨s, 1, none⟩ = some (.int .i64 base)) := fun W hW => ⟨(h.below hW).cells.1, (h.below hW).cells.2.1⟩
 obtain ⟨-, -, c2, -⟩ := (h.below B0').cells
 have b1 : (base : Int) ≤ 512 := by have := h.b5; omega
 have b2 : (i : Int) ≤ 8 := by have := h.n8; omega
 have b3 : (i : Int) < (n : Int) := by omega
 have b4 : decide (n ≤ i) = false := by simp; omega
 clear h hg hi
 go_enter Tryz.func30, Tryz.ntmps30
 go_upto_region 1 with fail
 change Code.wp _ _ _ _ (w.alloc (.cells #[.int .i64 0, .string ⟨#[]⟩] 45))
 have B0 := Lib.hid B0'
 have R0 := Lib.hid R0'
 clear B0' R0'
 generalize w.alloc (.cells #[.int .i64 0, .string ⟨#[]⟩] 45) = w1 at *
 go_upto_region 3 with fail
 clear c2
 refine' wp_region_conf 18 (.is _ :: .is _ :: .is _ :: .is _ :: .is _ :: .is _ :: .is _ :: .is _ :: .is _ :: .is _ :: .is _ :: .is _ :: .is _ :: .is _ :: .is _ :: .is _ :: .is _ :: .is _ :: []) (by kernel_rfl) (by kernel_rfl) (by kernel_rfl) (by kernel_rfl) rfl ?main
 case main =>
 iterate 18
   apply obs_step
   · rfl
   · intro w4 hE4 hk4
     have hb4 := below2 B0.out ((Below.refl w1.heap.size w1).drew.trans hE4)
     obtain ⟨d0, d1⟩ := C.out w4 hb4
     clear hk4 hE4
     go_wp2_with (go_at_call 65; refine (HR.out _ hb4).mono ?_; rintro e w5 ⟨rfl, rfl⟩)
     refine post_eq ?_ (Below.refl _ _)
     simp only [Act.put, sA, sB, sC]
     try rfl
   · simp only [Act.put, sA, sB, sC]
     rfl
 refine obs_end fun w2 hE1 _ => ?_
 have hb1 : Below w1.heap.size w1 w2 := (Below.refl w1.heap.size w1).drew.trans hE1
 have B1 := Lib.hid (below2 B0.out hb1)
 have R1 := Lib.hid (R0.out.keep hb1 R0.out.lt)
 clear hE1 hb1 B0 R0 HR
 change wpList _ _ _ _ _ _
 go_wp2_with (refine wpList_store_row rfl 45 _ _ rfl w.heap.size _ rfl rfl 45 _ R1.out (by kernel_rfl) (by simp) (by simp [Value.oneCell']) ?_)
 exact bodyPost_ret (results_row_tmp rfl _ _ w.heap.size 45 _ _ rfl (R1.out.setRow _) Tryz.underlying45 rfl (by kernel_rfl)) rfl ⟨rfl, below_setRow B1.out (Nat.le_refl _) _⟩
set_option maxRecDepth 100000 in
set_option maxHeartbeats 8000000 in
theorem rpRead_zero (h : Stands7r w F s gd D base n t T σ) {i : Nat} (hi : i < n) (h3 : σ (3 + 2 * i) = none) (h4 : σ (4 + 2 * i) = none) :
   Calls Tryz.prog 30 #[.pointer (some ⟨s, 0, none⟩), .int .i64 i] w fun e w' => e = .returned (.tuple #[.agg #[.int .i64 0, .string noughts], .int .i64 0]) ∧ Below w.heap.size w w' := by
 have hk : ((3 + 2 * i : Nat) : Int) = 3 + 2 * (i : Int) := by omega
 have hk2 : ((4 + 2 * i : Nat) : Int) = 4 + 2 * (i : Int) := by omega
 have HR3 : Hid (∀ W, Below w.heap.size w W → Calls Tryz.prog 65 #[.pointer (some ⟨gd, 0, none⟩), .int .i64 ((base : Int) + 3 + 2 * (i : Int))] W fun e w' => e = .returned (.tuple #[.string (secV σ (3 + 2 * i)), .int .i64 0]) ∧ W = w') := fun W hW => by
   have := rpDisk_read h (3 + 2 * i) (by omega) W hW
   rw [hk, ← Int.add_assoc] at this
   exact this
 have HR4 : Hid (∀ W, Below w.heap.size w W → Calls Tryz.prog 65 #[.pointer (some ⟨gd, 0, none⟩), .int .i64 ((base : Int) + 4 + 2 * (i : Int))] W fun e w' => e = .returned (.tuple #[.string (secV σ (4 + 2 * i)), .int .i64 0]) ∧ W = w') := fun W hW => by
   have := rpDisk_read h (4 + 2 * i) (by omega) W hW
   rw [hk2, ← Int.add_assoc] at this
   exact this
 rw [secV_none h3] at HR3
 rw [secV_none h4] at HR4
 have R0' := Blk.new w 45 #[.int .i64 0, .string ⟨#[]⟩]
 have B0' := (Below.refl w.heap.size w).alloc (Nat.le_refl _) (.cells #[.int .i64 0, .string ⟨#[]⟩] 45)
 have C : Hid (∀ W, Below w.heap.size w W → W.cell? ⟨s, 0, none⟩ = some (.pointer (some ⟨gd, 0, none⟩)) ∧ W.cell? ⟨s, 1, none⟩ = some (.int .i64 base)) := fun W hW => ⟨(h.sto.below hW).cells.1, (h.sto.below hW).cells.2.1⟩
 obtain ⟨-, -, c2, -⟩ := (h.sto.below B0').cells
 have b1 : (base : Int) ≤ 512 := by have := h.sto.b5; omega
 have b2 : (i : Int) ≤ 8 := by have := h.sto.n8; omega
 have b3 : (i : Int) < (n : Int) := by omega
 have b4 : decide (n ≤ i) = false := by simp; omega
 obtain ⟨ti, hti, htz, hts1, hts2⟩ := info_parts (show (Tryz.prog.info? 5).map (fun i => (i.zero, i.size, i.bytes)) = some (some (.int .u8 0), 1, 1) from by kernel_rfl)
 have hmk : ∀ W : World, (Instr.makeSlice 136 (.int .i64 128) (.int .i64 128)).run Tryz.prog W = .ok (.slice (some ⟨W.heap.size, 0, none⟩) 128 128) (W.alloc (.cells (bytesV (fullL 0)) 5)) := fun W => by
   have h := run_make (P := Tryz.prog) W 136 5 ti (.int .u8 0) Tryz.underlying136 hti htz .i64 .i64 128 128 (by omega) (by omega) (by rw [hts2]; omega) (by omega)
   have e : madeCells (Value.int .u8 0).cells ((128 : Int).toNat * ti.size) = bytesV (fullL 0) := by
     rw [hts1]
     apply Array.ext'
     rw [show (Value.int .u8 0).cells = #[Value.int .u8 0] from rfl, toList_madeCells_one]
     simp [bytesV, fullL]
   rw [e] at h
   simpa using h
 clear hti htz hts1 hts2
 have hzz : (zero128.toList == zero128.toList) = true := by simp
 clear h h3 h4 hk hk2 hi
 go_enter Tryz.func30, Tryz.ntmps30
 go_upto_region 1 with fail
 change Code.wp _ _ _ _ (w.alloc (.cells #[.int .i64 0, .string ⟨#[]⟩] 45))
 have B0 := Lib.hid B0'
 have R0 := Lib.hid R0'
 clear B0' R0'
 generalize w.alloc (.cells #[.int .i64 0, .string ⟨#[]⟩] 45) = w1 at *
 go_upto_region 3 with fail
 clear c2
 refine' wp_region_conf 18 (.is _ :: .is _ :: .is _ :: .is _ :: .is _ :: .is _ :: .is _ :: .is _ :: .is _ :: .is _ :: .is _ :: .is _ :: .is _ :: .is _ :: .is _ :: .is _ :: .is _ :: .is _ :: []) (by kernel_rfl) (by kernel_rfl) (by kernel_rfl) (by kernel_rfl) rfl ?main
 case main =>
 iterate 18
   apply obs_step
   · rfl
   · intro w4 hE4 hk4
     have hb4 := below2 B0.out ((Below.refl w1.heap.size w1).drew.trans hE4)
     obtain ⟨d0, d1⟩ := C.out w4 hb4
     clear hk4 hE4
     go_wp2_with (go_at_call 65; refine (HR3.out _ hb4).mono ?_; rintro e w5 ⟨rfl, rfl⟩)
     refine post_eq ?_ (Below.refl _ _)
     simp only [Act.put, sA, sB, sC]
     try rfl
   · simp only [Act.put, sA, sB, sC]
     rfl
 refine obs_end fun w2 hE1 _ => ?_
 have hb1 : Below w1.heap.size w1 w2 := (Below.refl w1.heap.size w1).drew.trans hE1
 have B1 := Lib.hid (below2 B0.out hb1)
 have R1 := Lib.hid (R0.out.keep hb1 R0.out.lt)
 clear hE1 hb1 B0 R0 HR3
 change wpList _ _ _ _ _ _
 go_upto_region 6 with fail
 refine' wp_region_conf 18 (.is _ :: .is _ :: .is _ :: .is _ :: .is _ :: .is _ :: .is _ :: .is _ :: .is _ :: .is _ :: .is _ :: .is _ :: .is _ :: .is _ :: .is _ :: .is _ :: .is _ :: .is _ :: []) (by kernel_rfl) (by kernel_rfl) (by kernel_rfl) (by kernel_rfl) rfl ?main
 case main =>
 iterate 18
   apply obs_step
   · rfl
   · intro w4 hE4 hk4
     have hb4 := below2 B1.out ((Below.refl w2.heap.size w2).drew.trans hE4)
     obtain ⟨d0, d1⟩ := C.out w4 hb4
     clear hk4 hE4
     go_wp2_with (go_at_call 65; refine (HR4.out _ hb4).mono ?_; rintro e w5 ⟨rfl, rfl⟩)
     refine post_eq ?_ (Below.refl _ _)
     simp only [Act.put, sA, sB, sC]
     try rfl
   · simp only [Act.put, sA, sB, sC]
     rfl
 refine obs_end fun w3 hE2 _ => ?_
 have hb2 : Below w2.heap.size w2 w3 := (Below.refl w2.heap.size w2).drew.trans hE2
 have B2 := Lib.hid (below2 B1.out hb2)
 have R2 := Lib.hid (R1.out.keep hb2 R1.out.lt)
 clear hE2 hb2 B1 R1 HR4
 change wpList _ _ _ _ _ _
 go_upto_region 7 with fail
 have hcv := conv_blk (Blk.new w3 5 (bytesV (fullL 0))) 0 128 128 (by simp [fullL]) 136 5 9 Tryz.underlying136 Tryz.underlying5 Tryz.underlying9
 rw [List.drop_zero, List.take_of_length_le (by simp [fullL])] at hcv
 change _ = Result.ok (Value.string zero128) _ at hcv
 generalize zero128 = z at *
 have B3 := B2.out.alloc B2.out.size (.cells (bytesV (fullL 0)) 5)
 have R3 := R2.out.alloc (.cells (bytesV (fullL 0)) 5)
 generalize hcl : bytesV (fullL 0) = cl at *
 clear hcl
 go_wp2_with fail
 refine (pgRefEmpty_any _).mono ?_
 rintro e w4 ⟨rfl, hb4⟩
 have B4 := Lib.hid (below2 B3 hb4)
 have R4 := Lib.hid (R3.keep hb4 R3.lt)
 clear hb4 B3 R3
 go_wp2_with (refine wpList_store_row rfl 45 _ _ rfl w.heap.size _ rfl rfl 45 _ R4.out (by kernel_rfl) (by simp) (by simp [Value.oneCell']) ?_)
 exact bodyPost_ret (results_row_tmp rfl _ _ w.heap.size 45 _ _ rfl (R4.out.setRow _) Tryz.underlying45 rfl (by kernel_rfl)) rfl ⟨rfl, below_setRow B4.out (Nat.le_refl _) _⟩
end
end Go.Proofs.YtbplgbkbggmaeaaGreat

namespace Go.Proofs.YtbplgbkbggmaeaaGreat
open Go.RowKit
section
variable {w : World} {F : Foot} {s gd base n t T : Nat} {D : Dk} {σ : Sg}
theorem refPgUnpack {p : Pag} (hp : p.Right) (W : World) : Calls Tryz.prog 67 #[.string p.bytes] W fun x w' => x = .returned (.tuple #[.agg #[.int .i64 p.1, .string p.2], .bool true]) ∧ Below W.heap.size W w' := by
 have h1 := hp.1.1
 have h2 := hp.1.2
 have hA : p.1.toNat ≤ 2147483647 := by omega
 have := pgRefUnpack_yes p.bytes W (isPage_pack hA hp.2)
 unfold Pag.bytes at this ⊢
 rw [pgPack_at hA, pgPack_rest, show ((p.1.toNat : Nat) : Int) = p.1 by omega] at this
 exact this
set_option maxRecDepth 100000 in
set_option maxHeartbeats 16000000 in
theorem rpRead_some (h : Stands7r w F s gd D base n t T σ) {i e0 : Nat} {p : Pag} (hi : i < n) (hp : p.Right) (h3 : σ (3 + 2 * i) = some (e0, half p.bytes 0)) (h4 : σ (4 + 2 * i) = some (e0, half p.bytes 1)) :
   Calls Tryz.prog 30 #[.pointer (some ⟨s, 0, none⟩), .int .i64 i] w fun e w' => e = .returned (.tuple #[.agg #[.int .i64 p.1, .string p.2], .int .i64 0]) ∧ Below w.heap.size w w' := by
 have hk : ((3 + 2 * i : Nat) : Int) = 3 + 2 * (i : Int) := by omega
 have hk2 : ((4 + 2 * i : Nat) : Int) = 4 + 2 * (i : Int) := by omega
 have HR3 : Hid (∀ W, Below w.heap.size w W → Calls Tryz.prog 65 #[.pointer (some ⟨gd, 0, none⟩), .int .i64 ((base : Int) + 3 + 2 * (i : Int))] W fun e w' => e = .returned (.tuple #[.string (secV σ (3 + 2 * i)), .int .i64 0]) ∧ W = w') := fun W hW => by
   have := rpDisk_read h (3 + 2 * i) (by omega) W hW
   rw [hk, ← Int.add_assoc] at this
   exact this
 have HR4 : Hid (∀ W, Below w.heap.size w W → Calls Tryz.prog 65 #[.pointer (some ⟨gd, 0, none⟩), .int .i64 ((base : Int) + 4 + 2 * (i : Int))] W fun e w' => e = .returned (.tuple #[.string (secV σ (4 + 2 * i)), .int .i64 0]) ∧ W = w') := fun W hW => by
   have := rpDisk_read h (4 + 2 * i) (by omega) W hW
   rw [hk2, ← Int.add_assoc] at this
   exact this
 have R0' := Blk.new w 45 #[.int .i64 0, .string ⟨#[]⟩]
 have B0' := (Below.refl w.heap.size w).alloc (Nat.le_refl _) (.cells #[.int .i64 0, .string ⟨#[]⟩] 45)
 have C : Hid (∀ W, Below w.heap.size w W → W.cell? ⟨s, 0, none⟩ = some (.pointer (some ⟨gd, 0, none⟩)) ∧ W.cell? ⟨s, 1, none⟩ = some (.int .i64 base)) := fun W hW => ⟨(h.sto.below hW).cells.1, (h.sto.below hW).cells.2.1⟩
 obtain ⟨-, -, c2, -⟩ := (h.sto.below B0').cells
 have b1 : (base : Int) ≤ 512 := by have := h.sto.b5; omega
 have b2 : (i : Int) ≤ 8 := by have := h.sto.n8; omega
 have b3 : (i : Int) < (n : Int) := by omega
 have b4 : decide (n ≤ i) = false := by simp; omega
 obtain ⟨ti, hti, htz, hts1, hts2⟩ := info_parts (show (Tryz.prog.info? 5).map (fun i => (i.zero, i.size, i.bytes)) = some (some (.int .u8 0), 1, 1) from by kernel_rfl)
 have hmk : ∀ W : World, (Instr.makeSlice 136 (.int .i64 128) (.int .i64 128)).run Tryz.prog W = .ok (.slice (some ⟨W.heap.size, 0, none⟩) 128 128) (W.alloc (.cells (bytesV (fullL 0)) 5)) := fun W => by
   have h := run_make (P := Tryz.prog) W 136 5 ti (.int .u8 0) Tryz.underlying136 hti htz .i64 .i64 128 128 (by omega) (by omega) (by rw [hts2]; omega) (by omega)
   have e : madeCells (Value.int .u8 0).cells ((128 : Int).toNat * ti.size) = bytesV (fullL 0) := by
     rw [hts1]
     apply Array.ext'
     rw [show (Value.int .u8 0).cells = #[Value.int .u8 0] from rfl, toList_madeCells_one]
     simp [bytesV, fullL]
   rw [e] at h
   simpa using h
 clear hti htz hts1 hts2
 have hx := h.tidy.at_ (k := 3 + 2 * i) (by omega) h3
 have hn8 := h.sto.n8
 have hne : secV σ (3 + 2 * i) ≠ zero128 := by
   rw [secV_some h3]
   exact secOf_zero hx.2 (by omega) (by have := hx.1; have := h.few; simp only at *; omega)
 have hne2 : ((secV σ (3 + 2 * i)).toList == zero128.toList) = false := by
   rw [beq_eq_false_iff_ne]
   intro e
   rw [ByteArray.toList_eq, ByteArray.toList_eq] at e
   exact hne (str_ext e)
 have S3 : Hid (∀ W, Below w.heap.size w W → _) := fun W hW => rpSlab_any (h.below hW) (3 + 2 * i) (by omega)
 have S4 : Hid (∀ W, Below w.heap.size w W → _) := fun W hW => rpSlab_any (h.below hW) (4 + 2 * i) (by omega)
 have q1 : sgE σ (3 + 2 * i) = e0 := by unfold sgE; rw [h3]; rfl
 have q2 : sgE σ (4 + 2 * i) = e0 := by unfold sgE; rw [h4]; rfl
 have q3 : sgB σ (3 + 2 * i) = half p.bytes 0 := by unfold sgB; rw [h3]; rfl
 have q4 : sgB σ (4 + 2 * i) = half p.bytes 1 := by unfold sgB; rw [h4]; rfl
 have q5 : ((sgI σ (3 + 2 * i) : Nat) : Int) = 2 * (i : Int) := by unfold sgI idxOf; rw [h3]; simp only [Option.isSome_some, if_true]; rw [if_neg (by omega)]; omega
 have q6 : ((sgI σ (4 + 2 * i) : Nat) : Int) = 2 * (i : Int) + 1 := by unfold sgI idxOf; rw [h4]; simp only [Option.isSome_some, if_true]; rw [if_neg (by omega)]; omega
 have q7 : (σ (3 + 2 * i)).isSome = true := by rw [h3]; rfl
 have q8 : (σ (4 + 2 * i)).isSome = true := by rw [h4]; rfl
 rw [q1, q3, q5, q7, hk] at S3
 rw [q2, q4, q6, q8, hk2] at S4
 have hz := Pag.bytes_size hp
 have hj : half p.bytes 0 ++ half p.bytes 1 = p.bytes := halves hz
 have hs0 := half_size hz (k := 0) (by omega)
 have hs1 := half_size hz (k := 1) (by omega)
 have HU := Lib.hid (fun W => refPgUnpack hp W)
 rw [← hj] at HU
 clear hj hz q1 q2 q3 q4 q5 q6 q7 q8 hne hx hn8
 clear h h3 h4 hk hk2 hi
 obtain ⟨a, d⟩ := p
 simp only at HU ⊢
 generalize half (Pag.bytes (a, d)) 0 = ha at *
 generalize half (Pag.bytes (a, d)) 1 = hb at *
 generalize secV σ (3 + 2 * i) = x at *
 generalize secV σ (4 + 2 * i) = y at *
 clear hp
 go_enter Tryz.func30, Tryz.ntmps30
 go_upto_region 1 with fail
 change Code.wp _ _ _ _ (w.alloc (.cells #[.int .i64 0, .string ⟨#[]⟩] 45))
 have B0 := Lib.hid B0'
 have R0 := Lib.hid R0'
 clear B0' R0'
 generalize w.alloc (.cells #[.int .i64 0, .string ⟨#[]⟩] 45) = w1 at *
 go_upto_region 3 with fail
 clear c2
 refine' wp_region_conf 18 (.is _ :: .is _ :: .is _ :: .is _ :: .is _ :: .is _ :: .is _ :: .is _ :: .is _ :: .is _ :: .is _ :: .is _ :: .is _ :: .is _ :: .is _ :: .is _ :: .is _ :: .is _ :: []) (by kernel_rfl) (by kernel_rfl) (by kernel_rfl) (by kernel_rfl) rfl ?main
 case main =>
 iterate 18
   apply obs_step
   · rfl
   · intro w4 hE4 hk4
     have hb4 := below2 B0.out ((Below.refl w1.heap.size w1).drew.trans hE4)
     obtain ⟨d0, d1⟩ := C.out w4 hb4
     clear hk4 hE4
     go_wp2_with (go_at_call 65; refine (HR3.out _ hb4).mono ?_; rintro e w5 ⟨rfl, rfl⟩)
     refine post_eq ?_ (Below.refl _ _)
     simp only [Act.put, sA, sB, sC]
     try rfl
   · simp only [Act.put, sA, sB, sC]
     rfl
 refine obs_end fun w2 hE1 _ => ?_
 have hb1 : Below w1.heap.size w1 w2 := (Below.refl w1.heap.size w1).drew.trans hE1
 have B1 := Lib.hid (below2 B0.out hb1)
 have R1 := Lib.hid (R0.out.keep hb1 R0.out.lt)
 clear hE1 hb1 B0 R0 HR3
 change wpList _ _ _ _ _ _
 go_upto_region 6 with fail
 refine' wp_region_conf 18 (.is _ :: .is _ :: .is _ :: .is _ :: .is _ :: .is _ :: .is _ :: .is _ :: .is _ :: .is _ :: .is _ :: .is _ :: .is _ :: .is _ :: .is _ :: .is _ :: .is _ :: .is _ :: []) (by kernel_rfl) (by kernel_rfl) (by kernel_rfl) (by kernel_rfl) rfl ?main
 case main =>
 iterate 18
   apply obs_step
   · rfl
   · intro w4 hE4 hk4
     have hb4 := below2 B1.out ((Below.refl w2.heap.size w2).drew.trans hE4)
     obtain ⟨d0, d1⟩ := C.out w4 hb4
     clear hk4 hE4
     go_wp2_with (go_at_call 65; refine (HR4.out _ hb4).mono ?_; rintro e w5 ⟨rfl, rfl⟩)
     refine post_eq ?_ (Below.refl _ _)
     simp only [Act.put, sA, sB, sC]
     try rfl
   · simp only [Act.put, sA, sB, sC]
     rfl
 refine obs_end fun w3 hE2 _ => ?_
 have hb2 : Below w2.heap.size w2 w3 := (Below.refl w2.heap.size w2).drew.trans hE2
 have B2 := Lib.hid (below2 B1.out hb2)
 have R2 := Lib.hid (R1.out.keep hb2 R1.out.lt)
 clear hE2 hb2 B1 R1 HR4
 change wpList _ _ _ _ _ _
 go_upto_region 7 with fail
 have hcv := conv_blk (Blk.new w3 5 (bytesV (fullL 0))) 0 128 128 (by simp [fullL]) 136 5 9 Tryz.underlying136 Tryz.underlying5 Tryz.underlying9
 rw [List.drop_zero, List.take_of_length_le (by simp [fullL])] at hcv
 change _ = Result.ok (Value.string zero128) _ at hcv
 generalize zero128 = z at *
 have B3 := B2.out.alloc B2.out.size (.cells (bytesV (fullL 0)) 5)
 have R3 := R2.out.alloc (.cells (bytesV (fullL 0)) 5)
 generalize hcl : bytesV (fullL 0) = cl at *
 clear hcl C
 have HB3 := Lib.hid B3
 have HR3' := Lib.hid R3
 clear B3 R3 B2 R2
 go_wp2_with fail
 refine (S3.out _ HB3.out).mono ?_
 rintro e w4 ⟨rfl, hb4⟩
 have B4 := Lib.hid ((below2 HB3.out hb4).alloc (below2 HB3.out hb4).size (.cells #[.int .u32 e0, .int .u32 (2 * (i : Int)), .string ha] 138))
 have R4 := Lib.hid ((HR3'.out.keep hb4 HR3'.out.lt).alloc (.cells #[.int .u32 e0, .int .u32 (2 * (i : Int)), .string ha] 138))
 have X4 := Lib.hid (Blk.new w4 138 #[.int .u32 e0, .int .u32 (2 * (i : Int)), .string ha])
 have G4 : Hid (w.heap.size ≠ w4.heap.size) := by show _ ≠ _; have := (HR3'.out.keep hb4 HR3'.out.lt).lt; omega
 clear hb4 HB3 HR3' S3
 go_upto_region 10 with fail
 change Code.wp _ _ _ _ (w4.alloc (.cells #[.int .u32 e0, .int .u32 (2 * (i : Int)), .string ha] 138))
 generalize w4.alloc (.cells #[.int .u32 e0, .int .u32 (2 * (i : Int)), .string ha] 138) = w5 at *
 generalize w4.heap.size = g1 at *
 go_wp2_with fail
 refine (S4.out _ B4.out).mono ?_
 rintro e w6 ⟨rfl, hb6⟩
 have B6 := Lib.hid ((below2 B4.out hb6).alloc (below2 B4.out hb6).size (.cells #[.int .u32 e0, .int .u32 (2 * (i : Int) + 1), .string hb] 138))
 have R6 := Lib.hid ((R4.out.keep hb6 R4.out.lt).alloc (.cells #[.int .u32 e0, .int .u32 (2 * (i : Int) + 1), .string hb] 138))
 have X6 := (X4.out.keep hb6 X4.out.lt).alloc (.cells #[.int .u32 e0, .int .u32 (2 * (i : Int) + 1), .string hb] 138)
 have Z6 := Blk.new w6 138 #[.int .u32 e0, .int .u32 (2 * (i : Int) + 1), .string hb]
 clear hb6 B4 R4 X4 S4
 go_upto_region 11 with fail
 change Code.wp _ _ _ _ (w6.alloc (.cells #[.int .u32 e0, .int .u32 (2 * (i : Int) + 1), .string hb] 138))
 generalize w6.alloc (.cells #[.int .u32 e0, .int .u32 (2 * (i : Int) + 1), .string hb] 138) = w7 at *
 generalize w6.heap.size = g2 at *
 have c10 : w7.cell? ⟨g1, 0, none⟩ = some (.int .u32 e0) := X6.cell 0
 have c11 : w7.cell? ⟨g1, 1, none⟩ = some (.int .u32 (2 * (i : Int))) := X6.cell 1
 have c12 : w7.cell? ⟨g1, 2, none⟩ = some (.string ha) := X6.cell 2
 have c20 : w7.cell? ⟨g2, 0, none⟩ = some (.int .u32 e0) := Z6.cell 0
 have c21 : w7.cell? ⟨g2, 1, none⟩ = some (.int .u32 (2 * (i : Int) + 1)) := Z6.cell 1
 have c22 : w7.cell? ⟨g2, 2, none⟩ = some (.string hb) := Z6.cell 2
 clear X6 Z6 G4
 have hsz : (ha.size : Int) + hb.size ≤ 224 := by omega
 go_wp2_with fail
 refine (HU.out _).mono ?_
 rintro e w8 ⟨rfl, hb8⟩
 have B8 := below2 B6.out hb8
 have R8 := R6.out.keep hb8 R6.out.lt
 have B9 := B8.alloc B8.size (.cells #[.int .i64 a, .string d] 45)
 have R9 := R8.alloc (.cells #[.int .i64 a, .string d] 45)
 have X9 := Blk.new w8 45 #[.int .i64 a, .string d]
 clear B8 R8 hb8 c10 c11 c12 c20 c21 c22 B6 R6
 go_wp2_with (first
   | (refine wpList_load_row rfl 45 _ rfl w8.heap.size rfl 45 _ (0, 0) _ X9 Tryz.underlying45 rfl (by kernel_rfl) ?_)
   | (refine wpList_store_row rfl 45 _ _ rfl w.heap.size _ rfl rfl 45 _ R9 (by kernel_rfl) (by simp) (by simp [Value.oneCell']) ?_))
 exact bodyPost_ret (results_row_tmp rfl _ _ w.heap.size 45 _ _ rfl (R9.setRow _) Tryz.underlying45 rfl (by kernel_rfl)) rfl ⟨rfl, below_setRow B9 (Nat.le_refl _) _⟩
end
end Go.Proofs.YtbplgbkbggmaeaaGreat
