/- Package page: a page's bytes in an array, laid and read. -/
import Derived.Test.YtkodnjefdophmaaNum4
import Derived.Test.YtkodnjefdophmaaPgA
import Derived.Deep.RegionHeld3
import Derived.Deep.RegionWith
namespace Go.Proofs.Ytkodnjefdophmaa
open Go.RowKit

theorem zeroP_run (w : World) : (zeroValue 54).run Try.prog w = .ok (.agg (bytesV (List.replicate 224 0))) w := by kernel_rfl
theorem bytesV_one (l : List UInt8) : (bytesV l).all (·.oneCell') = true := by simp [bytesV, Value.oneCell']
/-- What stands while a page's bytes are laid: the page in a box, the result's place, the bytes. -/
structure Laying (w W : World) (A : Nat) (d : ByteArray) (z l : List UInt8) : Prop where
  below : Below w.heap.size w W
  box : Blk W w.heap.size 30 #[.int .i64 A, .string d]
  out : Blk W (w.heap.size + 1) 54 (bytesV z)
  row : Blk W (w.heap.size + 1 + 1) 54 (bytesV l)
namespace Laying
variable {w W W' : World} {A : Nat} {d : ByteArray} {z l l' : List UInt8}
theorem start : Laying w (((w.alloc (.cells #[.int .i64 A, .string d] 30)).alloc (.cells (bytesV z) 54)).alloc (.cells (bytesV z) 54)) A d z z := by
  refine ⟨(((Below.refl _ _).alloc (Nat.le_refl _) _).alloc (by simp) _).alloc (by simp; omega) _, ((Blk.new _ _ _).alloc _).alloc _, ?_, ?_⟩
  · have h := (Blk.new (w.alloc (.cells #[.int .i64 A, .string d] 30)) 54 (bytesV z)).alloc (.cells (bytesV z) 54)
    simp only [World.size_alloc] at h
    exact h
  · have h := Blk.new ((w.alloc (.cells #[.int .i64 A, .string d] 30)).alloc (.cells (bytesV z) 54)) 54 (bytesV z)
    simp only [World.size_alloc] at h
    exact h
theorem c0 (h : Laying w W A d z l) : W.cell? ⟨w.heap.size, 0, none⟩ = some (.int .i64 A) := h.box.cellAt (by simp)
theorem c1 (h : Laying w W A d z l) : W.cell? ⟨w.heap.size, 1, none⟩ = some (.string d) := h.box.cellAt (by simp)
theorem at_ (h : Laying w W A d z l) (i : Nat) (hi : i < l.length) : ∃ v, W.cell? ⟨w.heap.size + 1 + 1, i, none⟩ = some v := ⟨_, h.row.cellAt (by rw [bytesV_size]; exact hi)⟩
theorem drew (h : Laying w W A d z l) : Laying w W.drew A d z l := ⟨h.below.drew, h.box, h.out, h.row⟩
theorem put (h : Laying w W A d z l) (i x : Nat) (v : Int) (hv : v = (x : Int) % 256) : Laying w (W.setCell ⟨w.heap.size + 1 + 1, i, none⟩ (.int .u8 v)) A d z (l.set i (UInt8.ofNat x)) :=
  ⟨h.below.setCell (by show w.heap.size ≤ w.heap.size + 1 + 1; omega) _, h.box.far (by show w.heap.size ≠ w.heap.size + 1 + 1; omega) _, h.out.far (by show w.heap.size + 1 ≠ w.heap.size + 1 + 1; omega) _, h.row.setB i x v hv⟩
theorem copied (h : Laying w W A d z l) (l' : List UInt8) : Laying w (W.setRow (w.heap.size + 1 + 1) (bytesV l')) A d z l' :=
  ⟨below_setRow h.below (by omega) _, h.box.farRow (by omega) _, h.out.farRow (by omega) _, h.row.setRow _⟩
end Laying

set_option maxRecDepth 100000 in
set_option maxHeartbeats 2000000 in
theorem pgLay_any (A : Nat) (d : ByteArray) (w : World) (hA : A ≤ 2147483647) (hd : d.size = 220) :
    Calls Try.prog 36 #[.agg #[.int .i64 A, .string d]] w fun e w' => e = .returned (.agg (bytesV (be4 A ++ d.data.toList))) ∧ Below w.heap.size w w' := by
  have hz := zeroP_run
  have L0 : (List.replicate 224 (0 : UInt8)).length = 224 := by simp
  generalize List.replicate 224 (0 : UInt8) = z at *
  have HA := Lib.hid hA
  clear hA
  go_enter Try.func36, Try.ntmps36
  go_wp2
  have hp := Laying.start (w := w) (A := A) (d := d) (z := z)
  generalize (((w.alloc (.cells #[.int .i64 A, .string d] 30)).alloc (.cells (bytesV z) 54)).alloc (.cells (bytesV z) 54)) = w1 at *
  refine wp_loop_rounds 5 ?_
  rw [rounds_succ]
  have c := hp.c0
  obtain ⟨v0, e0⟩ := hp.at_ 0 (by (try simp only [List.length_set]); omega)
  have f0 := hp.row.frozen 0
  go_wp2
  replace hp := hp.put 0 (A / 16777216) ((A : Int) / 16777216 % 256) (by omega)
  clear c e0 f0
  generalize w1.setCell _ _ = w2 at *
  rw [rounds_succ]
  have c := hp.c0
  obtain ⟨v0, e0⟩ := hp.at_ 1 (by (try simp only [List.length_set]); omega)
  have f0 := hp.row.frozen 1
  go_wp2
  replace hp := hp.put 1 (A / 65536) ((A : Int) / 65536 % 256) (by omega)
  clear c e0 f0
  generalize w2.setCell _ _ = w3 at *
  rw [rounds_succ]
  have c := hp.c0
  obtain ⟨v0, e0⟩ := hp.at_ 2 (by (try simp only [List.length_set]); omega)
  have f0 := hp.row.frozen 2
  go_wp2
  replace hp := hp.put 2 (A / 256) ((A : Int) / 256 % 256) (by omega)
  clear c e0 f0
  generalize w3.setCell _ _ = w4 at *
  rw [rounds_succ]
  have c := hp.c0
  obtain ⟨v0, e0⟩ := hp.at_ 3 (by (try simp only [List.length_set]); omega)
  have f0 := hp.row.frozen 3
  go_wp2
  replace hp := hp.put 3 (A) ((A : Int) % 256) (by omega)
  clear c e0 f0
  generalize w4.setCell _ _ = w5 at *
  rw [rounds_succ]
  go_wp2
  have e4 : (((z.set 0 (UInt8.ofNat (A / 16777216))).set 1 (UInt8.ofNat (A / 65536))).set 2 (UInt8.ofNat (A / 256))).set 3 (UInt8.ofNat A) = splice z 0 (be4 A) := by
    have := set4 z 0 (UInt8.ofNat (A / 16777216)) (UInt8.ofNat (A / 65536)) (UInt8.ofNat (A / 256)) (UInt8.ofNat A) (by omega)
    simpa [be4] using this
  rw [e4] at hp
  clear e4
  have L1 : (splice z 0 (be4 A)).length = 224 := by rw [length_splice z 0 (be4 A) (by rw [be4_len]; omega)]; exact L0
  have eE : splice (splice z 0 (be4 A)) 4 d.data.toList = be4 A ++ d.data.toList := by
    have hd' : d.data.toList.length = 220 := hd
    unfold splice
    rw [be4_len, hd']
    simp [be4, List.drop_eq_nil_of_le, L0]
  have c := hp.c1
  go_still_tail 3, (by kernel_rfl)
  change wpList _ _ _ _ _ w5.drew
  replace hp := hp.drew
  clear c
  generalize w5.drew = w6 at *
  have hcp := Lib.run_copy_row_string (P := Try.prog) w6 33 9 3 5 (w.heap.size + 1 + 1) 4 220 220 d _ 54 Try.underlying33 info_u8 hp.row (by omega) (by rw [bytesV_size]; omega)
  rw [← size_bytes d, bytesV_splice, size_bytes d, eE] at hcp
  replace hp := hp.copied (be4 A ++ d.data.toList)
  have F : ∃ cs cz : Array Value, Hid (cs = bytesV (be4 A ++ d.data.toList)) ∧ Hid (cz = bytesV z) ∧ Hid (cs.size = 224 ∧ cz.size = 224 ∧ cs.all (·.oneCell') = true) := by
    refine ⟨_, _, rfl, rfl, ?_, ?_, bytesV_one _⟩
    · have hd' : d.data.toList.length = 220 := hd
      rw [bytesV_size]
      simp [be4_len, hd']
    · rw [bytesV_size]; exact L0
  obtain ⟨cs, cz, hcs, hcz, hF⟩ := F
  rw [← hcs.out] at hp hcp
  have R := Lib.hid hp.row
  have O := Lib.hid hp.out
  have B := Lib.hid hp.below
  rw [← hcz.out] at O
  rw [← hcs.out] at R
  clear hp hz eE L0 L1 HA hcz
  go_upto_region 8 with fail
  obtain ⟨S1, S2, S3⟩ := hF.out
  replace R := R.out
  replace O := O.out
  replace B := B.out
  generalize w6.setRow _ _ = w7 at *
  go_wp2_with (first
    | (refine wpList_load_row rfl 54 _ rfl (w.heap.size + 1 + 1) rfl 54 _ (0, 0) _ R Try.underlying54 rfl (by rw [S1]; kernel_rfl) ?_)
    | (refine wpList_store_row rfl 54 _ _ rfl (w.heap.size + 1) _ rfl rfl 54 _ O (by rw [S1]; kernel_rfl) (by rw [S1, S2]) S3 ?_))
  refine bodyPost_ret (results_cell_row rfl _ _ (w.heap.size + 1) 54 _ (0, 0) _ rfl (O.setRow _) Try.underlying54 rfl (by rw [S1]; kernel_rfl)) rfl ⟨?_, below_setRow B (by omega) _⟩
  rw [hcs.out]
end Go.Proofs.Ytkodnjefdophmaa
