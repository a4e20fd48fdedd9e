/- Package page: the page of an array's bytes; the empty page. -/
import Derived.Test.YtkodnjefdophmaaPgB
namespace Go.Proofs.Ytkodnjefdophmaa
open Go.RowKit

theorem Blk.byte {w : World} {g t : Nat} {l : List UInt8} (h : Blk w g t (bytesV l)) (i : Nat) (hi : i < l.length) : w.cell? ⟨g, i, none⟩ = some (.int .u8 (l.getD i 0).toNat) := by
  rw [h.cell]
  simp [bytesV, hi]

set_option maxRecDepth 100000 in
set_option maxHeartbeats 2000000 in
theorem page_any (L : List UInt8) (w : World) (hL : L.length = 224) :
    Calls Try.prog 30 #[.agg (bytesV L)] w fun e w' => e = .returned (.agg #[.int .i64 (num4 L : Nat), .string ⟨(L.drop 4).toArray⟩]) ∧ Below w.heap.size w w' := by
  have S1 : (bytesV L).size = 224 := by rw [bytesV_size]; exact hL
  have B0 : Blk ((w.alloc (.cells (bytesV L) 54)).alloc (.cells #[.int .i64 0, .string ⟨#[]⟩] 30)) w.heap.size 54 (bytesV L) := (Blk.new _ _ _).alloc _
  have R0 := Blk.new (w.alloc (.cells (bytesV L) 54)) 30 #[.int .i64 0, .string ⟨#[]⟩]
  simp only [World.size_alloc] at R0
  have c0 := B0.byte 0 (by omega)
  have c1 := B0.byte 1 (by omega)
  have c2 := B0.byte 2 (by omega)
  have c3 := B0.byte 3 (by omega)
  have hr := Lib.hid (or_be ((L.getD 0 0).toNat) ((L.getD 1 0).toNat) ((L.getD 2 0).toNat) ((L.getD 3 0).toNat) (L.getD 0 0).toNat_lt (L.getD 1 0).toNat_lt (L.getD 2 0).toNat_lt (L.getD 3 0).toNat_lt)
  have b0 : ((L.getD 0 0).toNat : Int) < 256 := by have := (L.getD 0 0).toNat_lt; omega
  have b1 : ((L.getD 1 0).toNat : Int) < 256 := by have := (L.getD 1 0).toNat_lt; omega
  have b2 : ((L.getD 2 0).toNat : Int) < 256 := by have := (L.getD 2 0).toNat_lt; omega
  have b3 : ((L.getD 3 0).toNat : Int) < 256 := by have := (L.getD 3 0).toNat_lt; omega
  have hn : Hid (num4 L = (L.getD 0 0).toNat * 16777216 + (L.getD 1 0).toNat * 65536 + (L.getD 2 0).toNat * 256 + (L.getD 3 0).toNat) := rfl
  have hcv := conv_blk B0 4 220 220 (by omega) 33 5 9 Try.underlying33 Try.underlying5 Try.underlying9
  rw [show List.take 220 (List.drop 4 L) = List.drop 4 L from List.take_of_length_le (by simp; omega)] at hcv
  have hS := Lib.hid S1
  have hB := Lib.hid (((Below.refl w.heap.size w).alloc (Nat.le_refl _) (.cells (bytesV L) 54)).alloc (by simp) (.cells #[.int .i64 0, .string ⟨#[]⟩] 30))
  generalize (L.getD 0 0).toNat = x0 at *
  generalize (L.getD 1 0).toNat = x1 at *
  generalize (L.getD 2 0).toNat = x2 at *
  generalize (L.getD 3 0).toNat = x3 at *
  generalize num4 L = n at *
  generalize bytesV L = cs at *
  clear S1 hL
  go_enter Try.func30, Try.ntmps30
  go_wp2
  generalize ((w.alloc (.cells cs 54)).alloc (.cells #[.int .i64 0, .string ⟨#[]⟩] 30)) = w1 at *
  refine wp_loop_rounds 5 ?_
  iterate 4
    rw [rounds_succ]
    go_wp2
  rw [rounds_succ]
  go_wp2_with (refine wpList_store_row rfl 30 _ _ rfl (w.heap.size + 1) _ rfl rfl 30 _ R0 (by kernel_rfl) (by simp) (by simp [Value.oneCell']) ?_)
  refine bodyPost_ret (results_cell_row rfl _ _ (w.heap.size + 1) 30 _ (0, 0) _ rfl (R0.setRow _) Try.underlying30 rfl (by kernel_rfl)) rfl ⟨?_, below_setRow hB.out (by omega) _⟩
  rw [hr.out, hn.out]
  congr 4
  rw [show wrap64 _ = ((x0 * 16777216 + x1 * 65536 + x2 * 256 + x3 : Nat) : Int) from by unfold wrap64; omega]

/-- A text of noughts. -/
def noughts : ByteArray := ⟨(List.replicate 220 0).toArray⟩
theorem noughts_size : noughts.size = 220 := by
  rw [← size_bytes]
  exact List.length_replicate

theorem num4_zero : num4 (List.replicate 224 0) = 0 := by decide +kernel
set_option maxRecDepth 100000 in
set_option maxHeartbeats 2000000 in
theorem pgEmpty_any (w : World) : Calls Try.prog 23 #[] w fun e w' => e = .returned (.agg #[.int .i64 0, .string noughts]) ∧ Below w.heap.size w w' := by
  have hz := zeroP_run
  have hp := Lib.hid (fun W => page_any (List.replicate 224 0) W (by simp))
  have eD : Hid ((⟨(List.drop 4 (List.replicate 224 (0 : UInt8))).toArray⟩ : ByteArray) = noughts) := by show _ = _; unfold noughts; rw [List.drop_replicate]
  have eN := Lib.hid num4_zero
  generalize List.replicate 224 (0 : UInt8) = z at *
  have R0 := Blk.new w 30 #[.int .i64 0, .string ⟨#[]⟩]
  go_enter Try.func23, Try.ntmps23
  go_wp2_with fail
  refine (hp.out _).mono ?_
  rintro e w1 ⟨rfl, hb⟩
  rw [eD.out, eN.out]
  have R1 := R0.keep hb R0.lt
  have hB : Below w.heap.size w w1 := ((Below.refl _ _).alloc (Nat.le_refl _) _).trans (hb.mono (by simp))
  clear hp eD hz R0 hb
  go_wp2_with (refine wpList_store_row rfl 30 _ _ rfl w.heap.size _ rfl rfl 30 _ R1 (by kernel_rfl) (by simp) (by simp [Value.oneCell']) ?_)
  exact bodyPost_ret (results_cell_row rfl _ _ w.heap.size 30 _ (0, 0) _ rfl (R1.setRow _) Try.underlying30 rfl (by kernel_rfl)) rfl ⟨rfl, below_setRow hB (Nat.le_refl _) _⟩
end Go.Proofs.Ytkodnjefdophmaa
