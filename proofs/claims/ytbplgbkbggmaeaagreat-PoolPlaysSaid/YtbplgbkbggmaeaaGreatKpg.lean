/- Texts that belong together, joined: PgA, PgB, PgC, PgG, PgEm, PgEq. -/
import Derived.Test.YtbplgbkbggmaeaaGreatKrec
import Derived.Test.YtbplgbkbggmaeaaGreatKbase
import Derived.Deep.RegionHeld3
import Derived.Deep.RegionWith
namespace Go.Proofs.YtbplgbkbggmaeaaGreat
open Go.RowKit
def PgOk (a : Int) (d : ByteArray) : Prop := Num a ∧ d.size = 220
instance (a : Int) (d : ByteArray) : Decidable (PgOk a d) := inferInstanceAs (Decidable (_ ∧ _))
theorem bool_out {x : Bool} {p : Prop} [Decidable p] (h : x = true ↔ p) : Ending.returned (.bool x) = Ending.returned (.bool (decide p)) := by
 rw [show x = decide p from by rw [Bool.eq_iff_iff, h]; simp]
section
variable (a : Int) (d : ByteArray) (w : World)
theorem pgMayPlace_any (yes : Bool) (hy : yes = decide (Num a)) : Calls Tryz.prog 75 #[.int .i64 a] w fun e w' => e = .returned (.bool yes) ∧ w = w' := by
 have HY := Lib.hid hy
 clear hy
 go_enter Tryz.func75, Tryz.ntmps75
 by_cases h0 : (0 : Int) ≤ a
 all_goals
   go_wp2
   go_ret
   refine ⟨?_, rfl⟩
   rw [HY.out]
   refine bool_out ?_
   unfold Num
   simp
   try omega
set_option maxRecDepth 100000 in
theorem pgRight_any (yes : Bool) (hy : yes = decide (PgOk a d)) : Calls Tryz.prog 46 #[.agg #[.int .i64 a, .string d]] w fun e w' => e = .returned (.bool yes) ∧ Below w.heap.size w w' := by
 have HY := Lib.hid hy
 clear hy
 have M := Lib.hid (fun W => pgMayPlace_any a W _ rfl)
 go_enter Tryz.func46, Tryz.ntmps46
 go_wp2_with fail
 refine (M.out _).mono ?_
 rintro e w1 ⟨rfl, rfl⟩
 by_cases h0 : Num a
 · rw [decide_eq_true h0]
   go_wp2
   go_ret
   refine ⟨?_, (Below.refl _ _).alloc (Nat.le_refl _) _⟩
   rw [HY.out]
   refine bool_out ?_
   unfold PgOk
   simp [h0]
   try omega
 · rw [decide_eq_false h0]
   go_wp2
   go_ret
   refine ⟨?_, (Below.refl _ _).alloc (Nat.le_refl _) _⟩
   rw [HY.out]
   refine bool_out ?_
   unfold PgOk
   simp [h0]
set_option maxRecDepth 100000 in
theorem pgRefRight_any (yes : Bool) (hy : yes = decide (PgOk a d)) : Calls Tryz.prog 47 #[.agg #[.int .i64 a, .string d]] w fun e w' => e = .returned (.bool yes) ∧ Below w.heap.size w w' := by
 have HY := Lib.hid hy
 clear hy
 go_enter Tryz.func47, Tryz.ntmps47
 by_cases h0 : (0 : Int) ≤ a
 · by_cases h1 : a ≤ (2147483647 : Int)
   all_goals
     go_wp2
     go_ret
     refine ⟨?_, (Below.refl _ _).alloc (Nat.le_refl _) _⟩
     rw [HY.out]
     refine bool_out ?_
     unfold PgOk Num
     simp
     try omega
 · go_wp2
   go_ret
   refine ⟨?_, (Below.refl _ _).alloc (Nat.le_refl _) _⟩
   rw [HY.out]
   refine bool_out ?_
   unfold PgOk Num
   simp
   try omega
end
end Go.Proofs.YtbplgbkbggmaeaaGreat

namespace Go.Proofs.YtbplgbkbggmaeaaGreat
open Go.RowKit
theorem zeroP_run (w : World) : (zeroValue 157).run Tryz.prog w = .ok (.agg (bytesV (List.replicate 224 0))) w := by kernel_rfl
theorem bytesV_one (l : List UInt8) : (bytesV l).all (·.oneCell') = true := by simp [bytesV, Value.oneCell']
structure Laying (w W : World) (A : Nat) (d : ByteArray) (z l : List UInt8) : Prop where
 below : Below w.heap.size w W
 box : Blk W w.heap.size 45 #[.int .i64 A, .string d]
 out : Blk W (w.heap.size + 1) 157 (bytesV z)
 row : Blk W (w.heap.size + 1 + 1) 157 (bytesV l)
namespace Laying
variable {w W W' : World} {A : Nat} {d : ByteArray} {z l l' : List UInt8}
theorem start : Laying w (((w.alloc (.cells #[.int .i64 A, .string d] 45)).alloc (.cells (bytesV z) 157)).alloc (.cells (bytesV z) 157)) A d z z := by
 refine ⟨(((Below.refl _ _).alloc (Nat.le_refl _) _).alloc (by simp) _).alloc (by simp; omega) _, ((Blk.new _ _ _).alloc _).alloc _, ?_, ?_⟩
 · have h := (Blk.new (w.alloc (.cells #[.int .i64 A, .string d] 45)) 157 (bytesV z)).alloc (.cells (bytesV z) 157)
   simp only [World.size_alloc] at h
   exact h
 · have h := Blk.new ((w.alloc (.cells #[.int .i64 A, .string d] 45)).alloc (.cells (bytesV z) 157)) 157 (bytesV z)
   simp only [World.size_alloc] at h
   exact h
theorem c0 (h : Laying w W A d z l) : W.cell? ⟨w.heap.size, 0, none⟩ = some (.int .i64 A) := h.box.cellAt (by simp)
theorem c1 (h : Laying w W A d z l) : W.cell? ⟨w.heap.size, 1, none⟩ = some (.string d) := h.box.cellAt (by simp)
theorem at_ (h : Laying w W A d z l) (i : Nat) (hi : i < l.length) : ∃ v, W.cell? ⟨w.heap.size + 1 + 1, i, none⟩ = some v := ⟨_, h.row.cellAt (by rw [bytesV_size]; exact hi)⟩
theorem drew (h : Laying w W A d z l) : Laying w W.drew A d z l := ⟨h.below.drew, h.box, h.out, h.row⟩
theorem put (h : Laying w W A d z l) (i x : Nat) (v : Int) (hv : v = (x : Int) % 256) : Laying w (W.setCell ⟨w.heap.size + 1 + 1, i, none⟩ (.int .u8 v)) A d z (l.set i (UInt8.ofNat x)) :=
 ⟨h.below.setCell (by show w.heap.size ≤ w.heap.size + 1 + 1; omega) _, h.box.far (by show w.heap.size ≠ w.heap.size + 1 + 1; omega) _, h.out.far (by show w.heap.size + 1 ≠ w.heap.size + 1 + 1; omega) _, h.row.setB i x v hv⟩
theorem copied (h : Laying w W A d z l) (l' : List UInt8) : Laying w (W.setRow (w.heap.size + 1 + 1) (bytesV l')) A d z l' :=
 ⟨below_setRow h.below (by omega) _, h.box.farRow (by omega) _, h.out.farRow (by omega) _, h.row.setRow _⟩
end Laying
set_option maxRecDepth 100000 in
set_option maxHeartbeats 2000000 in
theorem pgLay_any (A : Nat) (d : ByteArray) (w : World) (hA : A ≤ 2147483647) (hd : d.size = 220) :
   Calls Tryz.prog 152 #[.agg #[.int .i64 A, .string d]] w fun e w' => e = .returned (.agg (bytesV (be4 A ++ d.data.toList))) ∧ Below w.heap.size w w' := by
 have hz := zeroP_run
 have L0 : (List.replicate 224 (0 : UInt8)).length = 224 := by simp
 generalize List.replicate 224 (0 : UInt8) = z at *
 have HA := Lib.hid hA
 clear hA
 go_enter Tryz.func152, Tryz.ntmps152
 go_wp2
 have hp := Laying.start (w := w) (A := A) (d := d) (z := z)
 generalize (((w.alloc (.cells #[.int .i64 A, .string d] 45)).alloc (.cells (bytesV z) 157)).alloc (.cells (bytesV z) 157)) = w1 at *
 refine wp_loop_rounds 5 ?_
 rw [rounds_succ]
 have c := hp.c0
 obtain ⟨v0, e0⟩ := hp.at_ 0 (by (try simp only [List.length_set]); omega)
 have f0 := hp.row.frozen 0
 go_wp2
 replace hp := hp.put 0 (A / 16777216) ((A : Int) / 16777216 % 256) (by omega)
 clear c e0 f0
 generalize w1.setCell _ _ = w2 at *
 rw [rounds_succ]
 have c := hp.c0
 obtain ⟨v0, e0⟩ := hp.at_ 1 (by (try simp only [List.length_set]); omega)
 have f0 := hp.row.frozen 1
 go_wp2
 replace hp := hp.put 1 (A / 65536) ((A : Int) / 65536 % 256) (by omega)
 clear c e0 f0
 generalize w2.setCell _ _ = w3 at *
 rw [rounds_succ]
 have c := hp.c0
 obtain ⟨v0, e0⟩ := hp.at_ 2 (by (try simp only [List.length_set]); omega)
 have f0 := hp.row.frozen 2
 go_wp2
 replace hp := hp.put 2 (A / 256) ((A : Int) / 256 % 256) (by omega)
 clear c e0 f0
 generalize w3.setCell _ _ = w4 at *
 rw [rounds_succ]
 have c := hp.c0
 obtain ⟨v0, e0⟩ := hp.at_ 3 (by (try simp only [List.length_set]); omega)
 have f0 := hp.row.frozen 3
 go_wp2
 replace hp := hp.put 3 (A) ((A : Int) % 256) (by omega)
 clear c e0 f0
 generalize w4.setCell _ _ = w5 at *
 rw [rounds_succ]
 go_wp2
 have e4 : (((z.set 0 (UInt8.ofNat (A / 16777216))).set 1 (UInt8.ofNat (A / 65536))).set 2 (UInt8.ofNat (A / 256))).set 3 (UInt8.ofNat A) = splice z 0 (be4 A) := by
   have := set4 z 0 (UInt8.ofNat (A / 16777216)) (UInt8.ofNat (A / 65536)) (UInt8.ofNat (A / 256)) (UInt8.ofNat A) (by omega)
   simpa [be4] using this
 rw [e4] at hp
 clear e4
 have L1 : (splice z 0 (be4 A)).length = 224 := by rw [length_splice z 0 (be4 A) (by rw [be4_len]; omega)]; exact L0
 have eE : splice (splice z 0 (be4 A)) 4 d.data.toList = be4 A ++ d.data.toList := by
   have hd' : d.data.toList.length = 220 := hd
   unfold splice
   rw [be4_len, hd']
   simp [be4, List.drop_eq_nil_of_le, L0]
 have c := hp.c1
 go_still_tail 3, (by kernel_rfl)
 change wpList _ _ _ _ _ w5.drew
 replace hp := hp.drew
 clear c
 generalize w5.drew = w6 at *
 have hcp := Lib.run_copy_row_string (P := Tryz.prog) w6 136 9 3 5 (w.heap.size + 1 + 1) 4 220 220 d _ 157 Tryz.underlying136 info_u8 hp.row (by omega) (by rw [bytesV_size]; omega)
 rw [← size_bytes d, bytesV_splice, size_bytes d, eE] at hcp
 replace hp := hp.copied (be4 A ++ d.data.toList)
 have F : ∃ cs cz : Array Value, Hid (cs = bytesV (be4 A ++ d.data.toList)) ∧ Hid (cz = bytesV z) ∧ Hid (cs.size = 224 ∧ cz.size = 224 ∧ cs.all (·.oneCell') = true) := by
   refine ⟨_, _, rfl, rfl, ?_, ?_, bytesV_one _⟩
   · have hd' : d.data.toList.length = 220 := hd
     rw [bytesV_size]
     simp [be4_len, hd']
   · rw [bytesV_size]; exact L0
 obtain ⟨cs, cz, hcs, hcz, hF⟩ := F
 rw [← hcs.out] at hp hcp
 have R := Lib.hid hp.row
 have O := Lib.hid hp.out
 have B := Lib.hid hp.below
 rw [← hcz.out] at O
 rw [← hcs.out] at R
 clear hp hz eE L0 L1 HA hcz
 go_upto_region 8 with fail
 obtain ⟨S1, S2, S3⟩ := hF.out
 replace R := R.out
 replace O := O.out
 replace B := B.out
 generalize w6.setRow _ _ = w7 at *
 go_wp2_with (first
   | (refine wpList_load_row rfl 157 _ rfl (w.heap.size + 1 + 1) rfl 157 _ (0, 0) _ R Tryz.underlying157 rfl (by rw [S1]; kernel_rfl) ?_)
   | (refine wpList_store_row rfl 157 _ _ rfl (w.heap.size + 1) _ rfl rfl 157 _ O (by rw [S1]; kernel_rfl) (by rw [S1, S2]) S3 ?_))
 refine bodyPost_ret (results_cell_row rfl _ _ (w.heap.size + 1) 157 _ (0, 0) _ rfl (O.setRow _) Tryz.underlying157 rfl (by rw [S1]; kernel_rfl)) rfl ⟨?_, below_setRow B (by omega) _⟩
 rw [hcs.out]
end Go.Proofs.YtbplgbkbggmaeaaGreat

namespace Go.Proofs.YtbplgbkbggmaeaaGreat
open Go.RowKit
theorem Blk.byte {w : World} {g t : Nat} {l : List UInt8} (h : Blk w g t (bytesV l)) (i : Nat) (hi : i < l.length) : w.cell? ⟨g, i, none⟩ = some (.int .u8 (l.getD i 0).toNat) := by
 rw [h.cell]
 simp [bytesV, hi]
set_option maxRecDepth 100000 in
set_option maxHeartbeats 2000000 in
theorem page_any (L : List UInt8) (w : World) (hL : L.length = 224) :
   Calls Tryz.prog 90 #[.agg (bytesV L)] w fun e w' => e = .returned (.agg #[.int .i64 (num4 L : Nat), .string ⟨(L.drop 4).toArray⟩]) ∧ Below w.heap.size w w' := by
 have S1 : (bytesV L).size = 224 := by rw [bytesV_size]; exact hL
 have B0 : Blk ((w.alloc (.cells (bytesV L) 157)).alloc (.cells #[.int .i64 0, .string ⟨#[]⟩] 45)) w.heap.size 157 (bytesV L) := (Blk.new _ _ _).alloc _
 have R0 := Blk.new (w.alloc (.cells (bytesV L) 157)) 45 #[.int .i64 0, .string ⟨#[]⟩]
 simp only [World.size_alloc] at R0
 have c0 := B0.byte 0 (by omega)
 have c1 := B0.byte 1 (by omega)
 have c2 := B0.byte 2 (by omega)
 have c3 := B0.byte 3 (by omega)
 have hr := Lib.hid (or_be ((L.getD 0 0).toNat) ((L.getD 1 0).toNat) ((L.getD 2 0).toNat) ((L.getD 3 0).toNat) (L.getD 0 0).toNat_lt (L.getD 1 0).toNat_lt (L.getD 2 0).toNat_lt (L.getD 3 0).toNat_lt)
 have b0 : ((L.getD 0 0).toNat : Int) < 256 := by have := (L.getD 0 0).toNat_lt; omega
 have b1 : ((L.getD 1 0).toNat : Int) < 256 := by have := (L.getD 1 0).toNat_lt; omega
 have b2 : ((L.getD 2 0).toNat : Int) < 256 := by have := (L.getD 2 0).toNat_lt; omega
 have b3 : ((L.getD 3 0).toNat : Int) < 256 := by have := (L.getD 3 0).toNat_lt; omega
 have hn : Hid (num4 L = (L.getD 0 0).toNat * 16777216 + (L.getD 1 0).toNat * 65536 + (L.getD 2 0).toNat * 256 + (L.getD 3 0).toNat) := rfl
 have hcv := conv_blk B0 4 220 220 (by omega) 136 5 9 Tryz.underlying136 Tryz.underlying5 Tryz.underlying9
 rw [show List.take 220 (List.drop 4 L) = List.drop 4 L from List.take_of_length_le (by simp; omega)] at hcv
 have hS := Lib.hid S1
 have hB := Lib.hid (((Below.refl w.heap.size w).alloc (Nat.le_refl _) (.cells (bytesV L) 157)).alloc (by simp) (.cells #[.int .i64 0, .string ⟨#[]⟩] 45))
 generalize (L.getD 0 0).toNat = x0 at *
 generalize (L.getD 1 0).toNat = x1 at *
 generalize (L.getD 2 0).toNat = x2 at *
 generalize (L.getD 3 0).toNat = x3 at *
 generalize num4 L = n at *
 generalize bytesV L = cs at *
 clear S1 hL
 go_enter Tryz.func90, Tryz.ntmps90
 go_wp2
 generalize ((w.alloc (.cells cs 157)).alloc (.cells #[.int .i64 0, .string ⟨#[]⟩] 45)) = w1 at *
 refine wp_loop_rounds 5 ?_
 iterate 4
   rw [rounds_succ]
   go_wp2
 rw [rounds_succ]
 go_wp2_with (refine wpList_store_row rfl 45 _ _ rfl (w.heap.size + 1) _ rfl rfl 45 _ R0 (by kernel_rfl) (by simp) (by simp [Value.oneCell']) ?_)
 refine bodyPost_ret (results_cell_row rfl _ _ (w.heap.size + 1) 45 _ (0, 0) _ rfl (R0.setRow _) Tryz.underlying45 rfl (by kernel_rfl)) rfl ⟨?_, below_setRow hB.out (by omega) _⟩
 rw [hr.out, hn.out]
 congr 4
 rw [show wrap64 _ = ((x0 * 16777216 + x1 * 65536 + x2 * 256 + x3 : Nat) : Int) from by unfold wrap64; omega]
def noughts : ByteArray := ⟨(List.replicate 220 0).toArray⟩
theorem noughts_size : noughts.size = 220 := by
 rw [← size_bytes]
 exact List.length_replicate
theorem num4_zero : num4 (List.replicate 224 0) = 0 := by decide +kernel
set_option maxRecDepth 100000 in
set_option maxHeartbeats 2000000 in
theorem pgEmpty_any (w : World) : Calls Tryz.prog 62 #[] w fun e w' => e = .returned (.agg #[.int .i64 0, .string noughts]) ∧ Below w.heap.size w w' := by
 have hz := zeroP_run
 have hp := Lib.hid (fun W => page_any (List.replicate 224 0) W (by simp))
 have eD : Hid ((⟨(List.drop 4 (List.replicate 224 (0 : UInt8))).toArray⟩ : ByteArray) = noughts) := by show _ = _; unfold noughts; rw [List.drop_replicate]
 have eN := Lib.hid num4_zero
 generalize List.replicate 224 (0 : UInt8) = z at *
 have R0 := Blk.new w 45 #[.int .i64 0, .string ⟨#[]⟩]
 go_enter Tryz.func62, Tryz.ntmps62
 go_wp2_with fail
 refine (hp.out _).mono ?_
 rintro e w1 ⟨rfl, hb⟩
 rw [eD.out, eN.out]
 have R1 := R0.keep hb R0.lt
 have hB : Below w.heap.size w w1 := ((Below.refl _ _).alloc (Nat.le_refl _) _).trans (hb.mono (by simp))
 clear hp eD hz R0 hb
 go_wp2_with (refine wpList_store_row rfl 45 _ _ rfl w.heap.size _ rfl rfl 45 _ R1 (by kernel_rfl) (by simp) (by simp [Value.oneCell']) ?_)
 exact bodyPost_ret (results_cell_row rfl _ _ w.heap.size 45 _ (0, 0) _ rfl (R1.setRow _) Tryz.underlying45 rfl (by kernel_rfl)) rfl ⟨rfl, below_setRow hB (Nat.le_refl _) _⟩
end Go.Proofs.YtbplgbkbggmaeaaGreat

namespace Go.Proofs.YtbplgbkbggmaeaaGreat
open Go.RowKit
def packS (A : Nat) (d : ByteArray) : ByteArray := ⟨(be4 A ++ d.data.toList).toArray⟩
theorem packS_data (A : Nat) (d : ByteArray) : (packS A d).data.toList = be4 A ++ d.data.toList := rfl
theorem packS_size {A : Nat} {d : ByteArray} (hd : d.size = 220) : (packS A d).size = 224 := by
 rw [← size_bytes, packS_data, List.length_append, be4_len, size_bytes, hd]
def packR (a : Int) (d : ByteArray) : ByteArray × Int := if PgOk a d then (packS a.toNat d, 0) else (⟨#[]⟩, 3)
def IsPage (s : ByteArray) : Prop := s.size = 224 ∧ num4 s.data.toList ≤ 2147483647
instance (s : ByteArray) : Decidable (IsPage s) := inferInstanceAs (Decidable (_ ∧ _))
set_option maxRecDepth 100000 in
set_option maxHeartbeats 4000000 in
theorem pgPack_form (a : Int) (d : ByteArray) (w : World) (h : ¬ PgOk a d) : Calls Tryz.prog 124 #[.agg #[.int .i64 a, .string d]] w fun e w' => e = .returned (.tuple #[.string ⟨#[]⟩, .int .i64 3]) ∧ Below w.heap.size w w' := by
 have P := Lib.hid (fun W => pgRight_any a d W false (by simp [h]))
 go_enter Tryz.func124, Tryz.ntmps124
 go_wp2_with fail
 have hB := (Below.refl w.heap.size w).alloc (Nat.le_refl _) (.cells #[.int .i64 a, .string d] 45)
 generalize (w.alloc (.cells #[.int .i64 a, .string d] 45)) = w1 at *
 refine (P.out _).mono ?_
 rintro e w2 ⟨rfl, hb⟩
 go_wp2
 go_ret2
 exact ⟨rfl, hB.trans (hb.mono hB.size)⟩
set_option maxRecDepth 100000 in
set_option maxHeartbeats 4000000 in
theorem pgPack_ok (A : Nat) (d : ByteArray) (w : World) (hA : A ≤ 2147483647) (hd : d.size = 220) : Calls Tryz.prog 124 #[.agg #[.int .i64 A, .string d]] w fun e w' => e = .returned (.tuple #[.string (packS A d), .int .i64 0]) ∧ Below w.heap.size w w' := by
 have P := Lib.hid (fun W => pgRight_any A d W true (by simp [PgOk, Num]; omega))
 have L := Lib.hid (fun W => pgLay_any A d W hA hd)
 have hz := zeroP_run
 have Z1 : Hid ((bytesV (List.replicate 224 0)).size = 224) := by show _ = _; rw [bytesV_size]; simp
 generalize bytesV (List.replicate 224 0) = cz at *
 have LS : (be4 A ++ d.data.toList).length = 224 := by
   have hd' : d.data.toList.length = 220 := hd
   simp [be4_len, hd']
 have hLS := Lib.hid LS
 have hS : Hid ((bytesV (be4 A ++ d.data.toList)).size = 224) := by show _ = _; rw [bytesV_size]; exact LS
 have hS3 := Lib.hid (bytesV_one (be4 A ++ d.data.toList))
 have hR : Hid (packS A d = ⟨(be4 A ++ d.data.toList).toArray⟩) := rfl
 clear LS
 generalize be4 A ++ d.data.toList = L6 at *
 go_enter Tryz.func124, Tryz.ntmps124
 go_wp2_with fail
 have X0 := Blk.new w 45 #[.int .i64 A, .string d]
 have hB := (Below.refl w.heap.size w).alloc (Nat.le_refl _) (.cells #[.int .i64 A, .string d] 45)
 generalize (w.alloc (.cells #[.int .i64 A, .string d] 45)) = w1 at *
 refine (P.out _).mono ?_
 rintro e w2 ⟨rfl, hb⟩
 have X2 := X0.keep hb X0.lt
 replace hB := hB.trans (hb.mono hB.size)
 have c0 := X2.cellAt (i := 0) (by simp)
 have c1 := X2.cellAt (i := 1) (by simp)
 simp at c0 c1
 clear X0 hb P
 go_wp2_with fail
 refine (L.out _).mono ?_
 rintro e w3 ⟨rfl, hb⟩
 replace hB := hB.trans (hb.mono hB.size)
 clear hb L X2 c0 c1
 have K6 := Blk.new w3 157 cz
 have hB7 := below_setRow (hB.alloc hB.size (.cells cz 157)) (g := w3.heap.size) hB.size (bytesV L6)
 have K7 := K6.setRow (bytesV L6)
 go_upto_region 4 with (refine wpList_store_row rfl 157 _ _ rfl w3.heap.size _ rfl rfl 157 _ K6 (by rw [hS.out]; kernel_rfl) (by rw [hS.out, Z1.out]) hS3.out ?_)
 clear K6 hB
 generalize (w3.alloc _).setRow _ _ = w4 at *
 have hcv := conv_blk K7 0 224 224 (by rw [hLS.out]; omega) 136 5 9 Tryz.underlying136 Tryz.underlying5 Tryz.underlying9
 rw [List.drop_zero, List.take_of_length_le (by rw [hLS.out]; omega), ← hR.out] at hcv
 go_wp2
 go_ret2
 exact ⟨rfl, hB7⟩
set_option maxRecDepth 100000 in
set_option maxHeartbeats 4000000 in
theorem pgUnpack_rest (s : ByteArray) (w : World) (h : s.size = 224) (yes : Bool) (hy : yes = decide (num4 s.data.toList ≤ 2147483647)) : Calls Tryz.prog 64 #[.string s] w fun e w' => e = .returned (.tuple (if yes then #[.agg #[.int .i64 (num4 s.data.toList : Nat), .string (s.extract 4 s.size)], .int .i64 0] else #[.agg #[.int .i64 0, .string ⟨#[]⟩], .int .i64 3])) ∧ Below w.heap.size w w' := by
 have h1 : ((s.size : Int) != 224) = false := by simp [h]
 have hz := zeroP_run
 have Z1 : Hid ((bytesV (List.replicate 224 0)).size = 224) := by show _ = _; rw [bytesV_size]; simp
 have hE : (⟨(List.drop 4 s.data.toList).toArray⟩ : ByteArray) = s.extract 4 s.size := by
   apply str_ext
   rw [Lib.extract_data]
   show List.drop 4 s.data.toList = _
   rw [List.take_of_length_le (by simp)]
 have G := Lib.hid (fun W => page_any s.data.toList W h)
 rw [hE] at G
 have P := Lib.hid (fun W => pgRight_any (num4 s.data.toList : Nat) (s.extract 4 s.size) W yes (by
   rw [hy, decide_eq_decide]
   unfold PgOk Num
   rw [ByteArray.size_extract]
   constructor
   · intro h2; omega
   · rintro ⟨⟨_, h3⟩, _⟩; omega))
 have hcp : ∀ W, Blk W (w.heap.size + 1) 157 (bytesV (List.replicate 224 0)) → (Builtin.copy_ #[136, 9] 3 #[.slice (some ⟨w.heap.size + 1, 0, none⟩) 224 224, .string s]).run Tryz.prog W = .ok (.int .i64 s.size) (W.setRow (w.heap.size + 1) (bytesV s.data.toList)) := fun W hW => by
   have hh := Lib.run_copy_row_string (P := Tryz.prog) W 136 9 3 5 (w.heap.size + 1) 0 224 224 s _ 157 Tryz.underlying136 info_u8 hW (by omega) (by rw [bytesV_size]; simp; omega)
   rw [← size_bytes s, bytesV_splice, size_bytes s] at hh
   rw [hh]
   congr 3
   unfold splice
   rw [List.take_zero, List.nil_append, List.drop_of_length_le (by rw [size_bytes, h]; simp), List.append_nil]
 have S1 : Hid ((bytesV s.data.toList).size = 224) := by show _ = _; rw [bytesV_size]; exact h
 generalize bytesV (List.replicate 224 0) = cz at *
 generalize bytesV s.data.toList = cs at *
 clear hE
 have hy' := Lib.hid hy
 clear hy
 generalize num4 s.data.toList = n at *
 generalize s.extract 4 s.size = b at *
 have R0 := (Blk.new w 45 #[.int .i64 0, .string ⟨#[]⟩]).alloc (.cells cz 157)
 have hB := ((Below.refl w.heap.size w).alloc (Nat.le_refl _) (.cells #[.int .i64 0, .string ⟨#[]⟩] 45)).alloc (by simp) (.cells cz 157)
 have K0 := Blk.new (w.alloc (.cells #[.int .i64 0, .string ⟨#[]⟩] 45)) 157 cz
 simp only [World.size_alloc] at K0
 go_enter Tryz.func64, Tryz.ntmps64
 go_upto_region 4 with fail
 generalize (w.alloc (.cells #[.int .i64 0, .string ⟨#[]⟩] 45)).alloc (.cells cz 157) = w1 at *
 replace hcp := hcp w1 K0
 have R1 := R0.farRow (k := w.heap.size + 1) (by omega) cs
 have K1 := K0.setRow cs
 replace hB := below_setRow hB (g := w.heap.size + 1) (by omega) cs
 go_upto_region 5 with fail
 clear hcp R0 K0 hz h1 h
 generalize w1.setRow _ _ = w2 at *
 go_wp2_with (refine wpList_load_row rfl 157 _ rfl (w.heap.size + 1) rfl 157 _ (0, 0) _ K1 Tryz.underlying157 rfl (by rw [S1.out]; kernel_rfl) ?_)
 refine (G.out _).mono ?_
 rintro e w3 ⟨rfl, hb⟩
 have R3 := R1.keep hb R1.lt
 replace hB := hB.trans (hb.mono hB.size)
 clear R1 K1 hb G
 have X3 := Blk.new w3 45 #[.int .i64 0, .string ⟨#[]⟩]
 have X4 := X3.setRow #[.int .i64 n, .string b]
 have R4 := (R3.alloc (.cells #[.int .i64 0, .string ⟨#[]⟩] 45)).farRow (k := w3.heap.size) (by have := R3.lt; omega) #[.int .i64 n, .string b]
 have hB4 := below_setRow (hB.alloc hB.size (.cells #[.int .i64 0, .string ⟨#[]⟩] 45)) (g := w3.heap.size) hB.size #[.int .i64 n, .string b]
 go_upto_region 6 with (refine wpList_store_row rfl 45 _ _ rfl w3.heap.size _ rfl rfl 45 _ X3 (by kernel_rfl) (by simp) (by simp [Value.oneCell']) ?_)
 clear X3 R3 hB
 generalize (w3.alloc _).setRow _ _ = w4 at *
 generalize w3.heap.size = g at *
 have c0 := X4.cellAt (i := 0) (by simp)
 have c1 := X4.cellAt (i := 1) (by simp)
 simp at c0 c1
 go_wp2_with fail
 refine (P.out _).mono ?_
 rintro e w5 ⟨rfl, hb⟩
 have R5 := R4.keep hb R4.lt
 have X5 := X4.keep hb X4.lt
 have d0 := X5.cellAt (i := 0) (by simp)
 have d1 := X5.cellAt (i := 1) (by simp)
 simp at d0 d1
 replace hB4 := hB4.trans (hb.mono hB4.size)
 clear c0 c1 X4 R4 hb P
 cases yes
 all_goals
   go_wp2_with (refine wpList_store_row rfl 45 _ _ rfl w.heap.size _ rfl rfl 45 _ R5 (by kernel_rfl) (by simp) (by simp [Value.oneCell']) ?_)
   exact bodyPost_ret (results_row_tmp rfl _ _ w.heap.size 45 _ _ rfl (R5.setRow _) Tryz.underlying45 rfl (by kernel_rfl)) rfl ⟨rfl, below_setRow hB4 (Nat.le_refl _) _⟩
theorem pgPack_any (a : Int) (d : ByteArray) (w : World) : Calls Tryz.prog 124 #[.agg #[.int .i64 a, .string d]] w fun e w' => e = .returned (.tuple #[.string (packR a d).1, .int .i64 (packR a d).2]) ∧ Below w.heap.size w w' := by
 unfold packR
 by_cases h : PgOk a d
 · rw [if_pos h]
   obtain ⟨A, rfl⟩ := Int.eq_ofNat_of_zero_le h.1.1
   have k2 := h.1.2
   exact pgPack_ok A d w (by omega) h.2
 · rw [if_neg h]
   exact pgPack_form a d w h
theorem pgUnpack_yes (s : ByteArray) (w : World) (h : IsPage s) : Calls Tryz.prog 64 #[.string s] w fun e w' => e = .returned (.tuple #[.agg #[.int .i64 (num4 s.data.toList : Nat), .string (s.extract 4 s.size)], .int .i64 0]) ∧ Below w.heap.size w w' :=
 pgUnpack_rest s w h.1 true (by simp [h.2])
theorem isPage_pack {A : Nat} {d : ByteArray} (hA : A ≤ 2147483647) (hd : d.size = 220) : IsPage (packS A d) := ⟨packS_size hd, by rw [packS_data, num4_be4 _ (by omega)]; exact hA⟩
theorem pgPack_at {A : Nat} {d : ByteArray} (hA : A ≤ 2147483647) : num4 (packS A d).data.toList = A := by rw [packS_data, num4_be4 _ (by omega)]
theorem pgPack_rest {A : Nat} {d : ByteArray} : (packS A d).extract 4 (packS A d).size = d := by
 apply str_ext
 rw [Lib.extract_data, packS_data, List.drop_left' (be4_len A), List.take_of_length_le]
 rw [← size_bytes, packS_data, List.length_append, be4_len]
 omega
end Go.Proofs.YtbplgbkbggmaeaaGreat

namespace Go.Proofs.YtbplgbkbggmaeaaGreat
open Go.RowKit
set_option maxRecDepth 100000 in
set_option maxHeartbeats 2000000 in
theorem pgRefEmpty_any (w : World) : Calls Tryz.prog 39 #[] w fun e w' => e = .returned (.agg #[.int .i64 0, .string noughts]) ∧ Below w.heap.size w w' := by
 have hmk : (Instr.makeSlice 136 (.int .i64 220) (.int .i64 220)).run Tryz.prog (w.alloc (.cells #[.int .i64 0, .string ⟨#[]⟩] 45)) = .ok (.slice (some ⟨w.heap.size + 1, 0, none⟩) 220 220) ((w.alloc (.cells #[.int .i64 0, .string ⟨#[]⟩] 45)).alloc (.cells (bytesV (List.replicate 220 0)) 5)) := by
   obtain ⟨i, hi, hz, hs1, hs2⟩ : ∃ i, Tryz.prog.info? 5 = some i ∧ i.zero = some (.int .u8 0) ∧ i.size = 1 ∧ i.bytes = 1 := by
     have h : (Tryz.prog.info? 5).map (fun i => (i.zero, i.size, i.bytes)) = some (some (.int .u8 0), 1, 1) := by kernel_rfl
     obtain ⟨i, hi, he⟩ := Option.map_eq_some_iff.1 h
     simp only [Prod.mk.injEq] at he
     exact ⟨i, hi, he.1, he.2.1, he.2.2⟩
   have h := run_make (P := Tryz.prog) (w.alloc (.cells #[.int .i64 0, .string ⟨#[]⟩] 45)) 136 5 i (.int .u8 0) Tryz.underlying136 hi hz .i64 .i64 220 220 (by omega) (by omega) (by rw [hs2]; omega) (by omega)
   rw [hs1] at h
   have e : madeCells (Value.int .u8 0).cells ((220 : Int).toNat * 1) = bytesV (List.replicate 220 0) := by kernel_rfl
   rw [e] at h
   simpa using h
 have B0 := Blk.new (w.alloc (.cells #[.int .i64 0, .string ⟨#[]⟩] 45)) 5 (bytesV (List.replicate 220 0))
 simp only [World.size_alloc] at B0
 have hcv := conv_blk B0 0 220 220 (by simp) 136 5 9 Tryz.underlying136 Tryz.underlying5 Tryz.underlying9
 rw [List.drop_zero, List.take_of_length_le (by simp)] at hcv
 have R0 := (Blk.new w 45 #[.int .i64 0, .string ⟨#[]⟩]).alloc (.cells (bytesV (List.replicate 220 0)) 5)
 have hB := Lib.hid (((Below.refl w.heap.size w).alloc (Nat.le_refl _) (.cells #[.int .i64 0, .string ⟨#[]⟩] 45)).alloc (by simp) (.cells (bytesV (List.replicate 220 0)) 5))
 clear B0
 generalize bytesV (List.replicate 220 0) = cs at *
 go_enter Tryz.func39, Tryz.ntmps39
 go_wp2_with (refine wpList_store_row rfl 45 _ _ rfl w.heap.size _ rfl rfl 45 _ R0 (by kernel_rfl) (by simp) (by simp [Value.oneCell']) ?_)
 exact bodyPost_ret (results_cell_row rfl _ _ w.heap.size 45 _ (0, 0) _ rfl (R0.setRow _) Tryz.underlying45 rfl (by kernel_rfl)) rfl ⟨rfl, below_setRow hB.out (Nat.le_refl _) _⟩
end Go.Proofs.YtbplgbkbggmaeaaGreat

namespace Go.Proofs.YtbplgbkbggmaeaaGreat
open Go.RowKit
set_option maxRecDepth 100000 in
set_option maxHeartbeats 1000000 in
theorem page_eql (A A' : Int) (D D' : ByteArray) (W : World) : (binOp .eql 45 (.agg #[.int .i64 A, .string D]) (.agg #[.int .i64 A', .string D'])).run Tryz.prog W =
   .ok (.bool (A == A' && D.toList == D'.toList)) W := by
 go_simp
 by_cases h1 : A = A' <;> by_cases h2 : D.toList = D'.toList <;> simp [h1, h2]
theorem page_guard : Tryz.prog.eqGuardType Tryz.prog.depth 45 = false := by kernel_rfl
theorem wp_page_eql {ops : Array Oper} {rest : List Oper} {o : Oper} {a : Act} {w : World} {Q : Exit → Act → World → Prop} (x y : Operand) (ty : TypeId) (ho : o.op = .binOp .eql 45 x y ty)
   (hw : Region.wanted o (yielded ops a.tmps) = true) (A A' : Int) (D D' : ByteArray) (hx : a.eval x = .agg #[.int .i64 A, .string D]) (hy : a.eval y = .agg #[.int .i64 A', .string D'])
   (h : wpList Tryz.prog ops Q rest (a.put o.dst (.bool (A == A' && D.toList == D'.toList))) w) : wpList Tryz.prog ops Q (o :: rest) a w := by
 unfold wpList
 rw [if_pos hw]
 refine .inl ?_
 unfold Oper.wp execOp
 simp only [ho, hx, hy, Sem.run_bind, run_eqGuard_agg w .eql 45 x y _ _ page_guard, Result.andThen_ok, page_eql, Sem.run_pure, Oper.upon_value]
 exact h
set_option maxRecDepth 100000 in
set_option maxHeartbeats 1000000 in
theorem page_neq (A A' : Int) (D D' : ByteArray) (W : World) : (binOp .neq 45 (.agg #[.int .i64 A, .string D]) (.agg #[.int .i64 A', .string D'])).run Tryz.prog W =
   .ok (.bool (!(A == A' && D.toList == D'.toList))) W := by
 go_simp
 by_cases h1 : A = A' <;> by_cases h2 : D.toList = D'.toList <;> simp [h1, h2]
theorem wp_page_neq {ops : Array Oper} {rest : List Oper} {o : Oper} {a : Act} {w : World} {Q : Exit → Act → World → Prop} (x y : Operand) (ty : TypeId) (ho : o.op = .binOp .neq 45 x y ty)
   (hw : Region.wanted o (yielded ops a.tmps) = true) (A A' : Int) (D D' : ByteArray) (hx : a.eval x = .agg #[.int .i64 A, .string D]) (hy : a.eval y = .agg #[.int .i64 A', .string D'])
   (h : wpList Tryz.prog ops Q rest (a.put o.dst (.bool (!(A == A' && D.toList == D'.toList)))) w) : wpList Tryz.prog ops Q (o :: rest) a w := by
 unfold wpList
 rw [if_pos hw]
 refine .inl ?_
 unfold Oper.wp execOp
 simp only [ho, hx, hy, Sem.run_bind, run_eqGuard_agg w .neq 45 x y _ _ page_guard, Result.andThen_ok, page_neq, Sem.run_pure, Oper.upon_value]
 exact h
end Go.Proofs.YtbplgbkbggmaeaaGreat
