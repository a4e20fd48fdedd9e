/- Package page: the page of an array's bytes; the empty page. -/
import Derived.Test.YtjnnkbbgeckgkaaPgB
namespace Go.Proofs.Ytjnnkbbgeckgkaa
open Go.RowKit

theorem Blk.byte {w : World} {g t : Nat} {l : List UInt8} (h : Blk w g t (bytesV l)) (i : Nat) (hi : i < l.length) : w.cell? ⟨g, i, none⟩ = some (.int .u8 (l.getD i 0).toNat) := by
  rw [h.cell]
  simp [bytesV, hi]

set_option maxRecDepth 100000 in
set_option maxHeartbeats 2000000 in
theorem page_any (L : List UInt8) (w : World) (hL : L.length = 224) :
    Calls Try.prog 28 #[.agg (bytesV L)] w fun e w' => e = .returned (.agg #[.int .i64 (num4 L : Nat), .string ⟨(L.drop 4).toArray⟩]) ∧ Below w.heap.size w w' := by
  have S1 : (bytesV L).size = 224 := by rw [bytesV_size]; exact hL
  have B0 : Blk ((w.alloc (.cells (bytesV L) 57)).alloc (.cells #[.int .i64 0, .string ⟨#[]⟩] 23)) w.heap.size 57 (bytesV L) := (Blk.new _ _ _).alloc _
  have R0 := Blk.new (w.alloc (.cells (bytesV L) 57)) 23 #[.int .i64 0, .string ⟨#[]⟩]
  simp only [World.size_alloc] at R0
  have c0 := B0.byte 0 (by omega)
  have c1 := B0.byte 1 (by omega)
  have c2 := B0.byte 2 (by omega)
  have c3 := B0.byte 3 (by omega)
  have hr := Lib.hid (or_be ((L.getD 0 0).toNat) ((L.getD 1 0).toNat) ((L.getD 2 0).toNat) ((L.getD 3 0).toNat) (L.getD 0 0).toNat_lt (L.getD 1 0).toNat_lt (L.getD 2 0).toNat_lt (L.getD 3 0).toNat_lt)
  have b0 : ((L.getD 0 0).toNat : Int) < 256 := by have := (L.getD 0 0).toNat_lt; omega
  have b1 : ((L.getD 1 0).toNat : Int) < 256 := by have := (L.getD 1 0).toNat_lt; omega
  have b2 : ((L.getD 2 0).toNat : Int) < 256 := by have := (L.getD 2 0).toNat_lt; omega
  have b3 : ((L.getD 3 0).toNat : Int) < 256 := by have := (L.getD 3 0).toNat_lt; omega
  have hn : Hid (num4 L = (L.getD 0 0).toNat * 16777216 + (L.getD 1 0).toNat * 65536 + (L.getD 2 0).toNat * 256 + (L.getD 3 0).toNat) := rfl
  have hcv := conv_blk B0 4 220 220 (by omega) 59 5 9 Try.underlying59 Try.underlying5 Try.underlying9
  rw [show List.take 220 (List.drop 4 L) = List.drop 4 L from List.take_of_length_le (by simp; omega)] at hcv
  have hS := Lib.hid S1
  have hB := Lib.hid (((Below.refl w.heap.size w).alloc (Nat.le_refl _) (.cells (bytesV L) 57)).alloc (by simp) (.cells #[.int .i64 0, .string ⟨#[]⟩] 23))
  generalize (L.getD 0 0).toNat = x0 at *
  generalize (L.getD 1 0).toNat = x1 at *
  generalize (L.getD 2 0).toNat = x2 at *
  generalize (L.getD 3 0).toNat = x3 at *
  generalize num4 L = n at *
  generalize bytesV L = cs at *
  clear S1 hL
  go_enter Try.func28, Try.ntmps28
  go_wp2
  generalize ((w.alloc (.cells cs 57)).alloc (.cells #[.int .i64 0, .string ⟨#[]⟩] 23)) = w1 at *
  refine wp_loop_rounds 5 ?_
  iterate 4
    rw [rounds_succ]
    go_wp2
  rw [rounds_succ]
  go_wp2_with (refine wpList_store_row rfl 23 _ _ rfl (w.heap.size + 1) _ rfl rfl 23 _ R0 (by kernel_rfl) (by simp) (by simp [Value.oneCell']) ?_)
  refine bodyPost_ret (results_cell_row rfl _ _ (w.heap.size + 1) 23 _ (0, 0) _ rfl (R0.setRow _) Try.underlying23 rfl (by kernel_rfl)) rfl ⟨?_, below_setRow hB.out (by omega) _⟩
  rw [hr.out, hn.out]
  congr 4
  rw [show wrap64 _ = ((x0 * 16777216 + x1 * 65536 + x2 * 256 + x3 : Nat) : Int) from by unfold wrap64; omega]

/-- A text of noughts. -/
def noughts : ByteArray := ⟨(List.replicate 220 0).toArray⟩
theorem noughts_size : noughts.size = 220 := by
  rw [← size_bytes]
  exact List.length_replicate

theorem num4_zero : num4 (List.replicate 224 0) = 0 := by decide +kernel
set_option maxRecDepth 100000 in
set_option maxHeartbeats 2000000 in
theorem empty_any (w : World) : Calls Try.prog 16 #[] w fun e w' => e = .returned (.agg #[.int .i64 0, .string noughts]) ∧ Below w.heap.size w w' := by
  have hz := zeroP_run
  have hp := Lib.hid (fun W => page_any (List.replicate 224 0) W (by simp))
  have eD : Hid ((⟨(List.drop 4 (List.replicate 224 (0 : UInt8))).toArray⟩ : ByteArray) = noughts) := by show _ = _; unfold noughts; rw [List.drop_replicate]
  have eN := Lib.hid num4_zero
  generalize List.replicate 224 (0 : UInt8) = z at *
  have R0 := Blk.new w 23 #[.int .i64 0, .string ⟨#[]⟩]
  go_enter Try.func16, Try.ntmps16
  go_wp2_with fail
  refine (hp.out _).mono ?_
  rintro e w1 ⟨rfl, hb⟩
  rw [eD.out, eN.out]
  have R1 := R0.keep hb R0.lt
  have hB : Below w.heap.size w w1 := ((Below.refl _ _).alloc (Nat.le_refl _) _).trans (hb.mono (by simp))
  clear hp eD hz R0 hb
  go_wp2_with (refine wpList_store_row rfl 23 _ _ rfl w.heap.size _ rfl rfl 23 _ R1 (by kernel_rfl) (by simp) (by simp [Value.oneCell']) ?_)
  exact bodyPost_ret (results_cell_row rfl _ _ w.heap.size 23 _ (0, 0) _ rfl (R1.setRow _) Try.underlying23 rfl (by kernel_rfl)) rfl ⟨rfl, below_setRow hB (Nat.le_refl _) _⟩

set_option maxRecDepth 100000 in
set_option maxHeartbeats 2000000 in
theorem refEmpty_any (w : World) : Calls Try.prog 17 #[] w fun e w' => e = .returned (.agg #[.int .i64 0, .string noughts]) ∧ Below w.heap.size w w' := by
  have hmk : (Instr.makeSlice 59 (.int .i64 220) (.int .i64 220)).run Try.prog (w.alloc (.cells #[.int .i64 0, .string ⟨#[]⟩] 23)) = .ok (.slice (some ⟨w.heap.size + 1, 0, none⟩) 220 220) ((w.alloc (.cells #[.int .i64 0, .string ⟨#[]⟩] 23)).alloc (.cells (bytesV (List.replicate 220 0)) 5)) := by
    obtain ⟨i, hi, hz, hs1, hs2⟩ : ∃ i, Try.prog.info? 5 = some i ∧ i.zero = some (.int .u8 0) ∧ i.size = 1 ∧ i.bytes = 1 := by
      have h : (Try.prog.info? 5).map (fun i => (i.zero, i.size, i.bytes)) = some (some (.int .u8 0), 1, 1) := by kernel_rfl
      obtain ⟨i, hi, he⟩ := Option.map_eq_some_iff.1 h
      simp only [Prod.mk.injEq] at he
      exact ⟨i, hi, he.1, he.2.1, he.2.2⟩
    have h := run_make (P := Try.prog) (w.alloc (.cells #[.int .i64 0, .string ⟨#[]⟩] 23)) 59 5 i (.int .u8 0) Try.underlying59 hi hz .i64 .i64 220 220 (by omega) (by omega) (by rw [hs2]; omega) (by omega)
    rw [hs1] at h
    have e : madeCells (Value.int .u8 0).cells ((220 : Int).toNat * 1) = bytesV (List.replicate 220 0) := by kernel_rfl
    rw [e] at h
    simpa using h
  have B0 := Blk.new (w.alloc (.cells #[.int .i64 0, .string ⟨#[]⟩] 23)) 5 (bytesV (List.replicate 220 0))
  simp only [World.size_alloc] at B0
  have hcv := conv_blk B0 0 220 220 (by simp) 59 5 9 Try.underlying59 Try.underlying5 Try.underlying9
  rw [List.drop_zero, List.take_of_length_le (by simp)] at hcv
  have R0 := (Blk.new w 23 #[.int .i64 0, .string ⟨#[]⟩]).alloc (.cells (bytesV (List.replicate 220 0)) 5)
  have hB := Lib.hid (((Below.refl w.heap.size w).alloc (Nat.le_refl _) (.cells #[.int .i64 0, .string ⟨#[]⟩] 23)).alloc (by simp) (.cells (bytesV (List.replicate 220 0)) 5))
  clear B0
  generalize bytesV (List.replicate 220 0) = cs at *
  go_enter Try.func17, Try.ntmps17
  go_wp2_with (refine wpList_store_row rfl 23 _ _ rfl w.heap.size _ rfl rfl 23 _ R0 (by kernel_rfl) (by simp) (by simp [Value.oneCell']) ?_)
  exact bodyPost_ret (results_cell_row rfl _ _ w.heap.size 23 _ (0, 0) _ rfl (R0.setRow _) Try.underlying23 rfl (by kernel_rfl)) rfl ⟨rfl, below_setRow hB.out (Nat.le_refl _) _⟩
end Go.Proofs.Ytjnnkbbgeckgkaa
