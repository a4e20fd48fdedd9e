/- Package slab: packing. -/
import Derived.Test.YtbjpnkjddfpmpaaSlabB
import Derived.Test.YtbjpnkjddfpmpaaZero
import Derived.Lib.BufferWrite
import Derived.Lib.UnsafeStr
import Derived.Deep.RegionHeld3
import Derived.Deep.RegionWith
namespace Go.Proofs.Ytbjpnkjddfpmpaa
open Go.RowKit

set_option maxRecDepth 100000 in
set_option maxHeartbeats 1000000 in
theorem pack_long (E I : Nat) (s : ByteArray) (w : World) (hl : 112 < s.size) (hs : s.size ≤ maxLen) :
    Calls Try.prog 24 #[.agg #[.int .u32 E, .int .u32 I, .string s]] w fun e w' => e = .returned (.tuple #[.string ⟨#[]⟩, .int .i64 1]) ∧ Below w.heap.size w w' := by
  unfold maxLen at hs
  go_enter Try.func24, Try.ntmps24
  go_wp2
  go_ret2
  exact ⟨rfl, (Below.refl _ _).alloc (Nat.le_refl _) _⟩

/-- What stands while a sector is made: the slab in a box, the sector behind it. -/
structure Packing (w W : World) (E I : Nat) (s : ByteArray) (l : List UInt8) : Prop where
  below : Below w.heap.size w W
  box : Blk W w.heap.size 65 #[.int .u32 E, .int .u32 I, .string s]
  row : Blk W (w.heap.size + 1) 77 (bytesV l)
namespace Packing
variable {w W W' : World} {E I : Nat} {s : ByteArray} {l l' : List UInt8}
theorem start : Packing w ((w.alloc (.cells #[.int .u32 E, .int .u32 I, .string s] 65)).alloc (.cells (bytesV l) 77)) E I s l := by
  refine ⟨((Below.refl _ _).alloc (Nat.le_refl _) _).alloc (by simp) _, (Blk.new _ _ _).alloc _, ?_⟩
  have h := Blk.new (w.alloc (.cells #[.int .u32 E, .int .u32 I, .string s] 65)) 77 (bytesV l)
  simp only [World.size_alloc] at h
  exact h
theorem drew (h : Packing w W E I s l) : Packing w W.drew E I s l := ⟨h.below.drew, h.box, h.row⟩
theorem c0 (h : Packing w W E I s l) : W.cell? ⟨w.heap.size, 0, none⟩ = some (.int .u32 E) := h.box.cellAt (by simp)
theorem c1 (h : Packing w W E I s l) : W.cell? ⟨w.heap.size, 1, none⟩ = some (.int .u32 I) := h.box.cellAt (by simp)
theorem c2 (h : Packing w W E I s l) : W.cell? ⟨w.heap.size, 2, none⟩ = some (.string s) := h.box.cellAt (by simp)
theorem grown (h : Packing w W E I s l) (hg : W.grownBy W' (some (w.heap.size + 1))) (hr : Blk W' (w.heap.size + 1) 77 (bytesV l')) : Packing w W' E I s l' :=
  ⟨h.below.grown hg h.below.size (fun k hk => by simp at hk; omega), (hg.block _ h.box.lt (by simp)).trans h.box, hr⟩
theorem copied (h : Packing w W E I s l) (l' : List UInt8) : Packing w (W.setRow (w.heap.size + 1) (bytesV l')) E I s l' :=
  ⟨below_setRow h.below (by omega) _, h.box.farRow (by omega) _, h.row.setRow _⟩
theorem more (h : Packing w W E I s l) (hb : Below W.heap.size W W') : Packing w W' E I s l :=
  ⟨below2 h.below hb, h.box.keep hb h.box.lt, h.row.keep hb h.row.lt⟩
end Packing
/-- A slab's sector, step by step as the program makes it. -/
def sect0 (E I : Nat) (s : ByteArray) : List UInt8 :=
  splice (splice (splice (splice (List.replicate 128 0) 0 (be4 E)) 4 (be4 I)) 8 (be4 (s.size * 65536))) 12 s.data.toList
def sect (E I : Nat) (s : ByteArray) : List UInt8 := splice (sect0 E I s) 124 (le4 (Crc.sum ((sect0 E I s).take 124)))
theorem le4_len (n : Nat) : (le4 n).length = 4 := rfl
theorem len_splice {l c : List UInt8} {o : Nat} (h : o + c.length ≤ l.length) : (splice l o c).length = l.length := length_splice l o c h

theorem sect0_len (E I : Nat) (s : ByteArray) (hl : s.size ≤ 112) : (sect0 E I s).length = 128 := by
  unfold sect0
  rw [len_splice, len_splice, len_splice, len_splice, List.length_replicate]
  · rw [be4_len, List.length_replicate]; omega
  · rw [be4_len, len_splice, List.length_replicate] <;> (try rw [be4_len, List.length_replicate]) <;> omega
  · rw [be4_len, len_splice, len_splice, List.length_replicate] <;> (try rw [be4_len]) <;> (try rw [len_splice]) <;> (try rw [be4_len]) <;> (try rw [List.length_replicate]) <;> omega
  · rw [size_bytes, len_splice, len_splice, len_splice, List.length_replicate] <;> (try rw [be4_len]) <;> (try rw [len_splice]) <;> (try rw [len_splice]) <;> (try rw [be4_len]) <;> (try rw [List.length_replicate]) <;> (try omega)
    all_goals (rw [be4_len, List.length_replicate]; omega)
theorem sect_len (E I : Nat) (s : ByteArray) (hl : s.size ≤ 112) : (sect E I s).length = 128 := by
  unfold sect
  rw [len_splice] <;> rw [sect0_len E I s hl]
  rw [le4_len]; omega

set_option maxRecDepth 100000 in
set_option maxHeartbeats 2000000 in
theorem pack_any (E I : Nat) (s : ByteArray) (w : World) (hE : E < 4294967296) (hI : I < 4294967296) (hl : s.size ≤ 112) :
    Calls Try.prog 24 #[.agg #[.int .u32 E, .int .u32 I, .string s]] w fun e w' => e = .returned (.tuple #[.string ⟨(sect E I s).toArray⟩, .int .i64 0]) ∧ Below w.heap.size w w' := by
  have hz := zero_run
  have L0 : 128 ≤ (List.replicate 128 (0 : UInt8)).length := by simp
  have HR : Hid (sect E I s = splice (splice (splice (splice (splice (List.replicate 128 0) 0 (be4 E)) 4 (be4 I)) 8 (be4 (s.size * 65536))) 12 s.data.toList) 124 (le4 (Crc.sum ((splice (splice (splice (splice (List.replicate 128 0) 0 (be4 E)) 4 (be4 I)) 8 (be4 (s.size * 65536))) 12 s.data.toList).take 124)))) := rfl
  generalize List.replicate 128 (0 : UInt8) = l at *
  have L1 : 128 ≤ (splice l 0 (be4 E)).length := by rw [len_splice (by rw [be4_len]; omega)]; exact L0
  have L2 : 128 ≤ (splice (splice l 0 (be4 E)) 4 (be4 I)).length := by rw [len_splice (by rw [be4_len]; omega)]; exact L1
  have L3 : 128 ≤ (splice (splice (splice l 0 (be4 E)) 4 (be4 I)) 8 (be4 (s.size * 65536))).length := by rw [len_splice (by rw [be4_len]; omega)]; exact L2
  have L4 : 128 ≤ (splice (splice (splice (splice l 0 (be4 E)) 4 (be4 I)) 8 (be4 (s.size * 65536))) 12 s.data.toList).length := by rw [len_splice (by rw [size_bytes]; omega)]; exact L3
  go_enter Try.func24, Try.ntmps24
  go_wp2
  have hp := Packing.start (w := w) (E := E) (I := I) (s := s) (l := l)
  generalize ((w.alloc (.cells #[.int .u32 E, .int .u32 I, .string s] 65)).alloc (.cells (bytesV l) 77)) = w1 at *
  have c := hp.c0
  go_still_tail 3, (by kernel_rfl)
  change wpList _ _ _ _ _ w1.drew
  replace hp := hp.drew
  clear c
  generalize w1.drew = w2 at *
  go_wp2_with fail
  refine (putHigh_any (w.heap.size + 1) 0 128 128 _ E l _ hE hp.row (by omega) (by omega) (by omega)).mono ?_
  rintro e w3 ⟨rfl, hg, hb⟩
  replace hp := hp.grown hg hb
  clear hg hb
  have c := hp.c1
  go_wp2_with fail
  go_still_tail 3, (by kernel_rfl)
  change wpList _ _ _ _ _ w3.drew
  replace hp := hp.drew
  clear c
  generalize w3.drew = w4 at *
  go_wp2_with fail
  refine (putHigh_any (w.heap.size + 1) 4 124 124 _ I _ _ hI hp.row (by omega) (by omega) (by omega)).mono ?_
  rintro e w5 ⟨rfl, hg, hb⟩
  replace hp := hp.grown hg hb
  clear hg hb
  have c := hp.c2
  go_wp2_with fail
  go_still_tail 6, (by kernel_rfl)
  change wpList _ _ _ _ _ w5.drew
  replace hp := hp.drew
  clear c
  generalize w5.drew = w6 at *
  go_wp2_with fail
  rw [show (s.size : Int) * 65536 = ((s.size * 65536 : Nat) : Int) from by omega]
  refine (putHigh_any (w.heap.size + 1) 8 120 120 _ (s.size * 65536) _ _ (by omega) hp.row (by omega) (by omega) (by omega)).mono ?_
  rintro e w7 ⟨rfl, hg, hb⟩
  replace hp := hp.grown hg hb
  clear hg hb
  have c := hp.c2
  go_wp2_with fail
  go_still_tail 3, (by kernel_rfl)
  change wpList _ _ _ _ _ w7.drew
  replace hp := hp.drew
  clear c
  generalize w7.drew = w8 at *
  have hcp := Lib.run_copy_row_string (P := Try.prog) w8 32 9 3 5 (w.heap.size + 1) 12 116 116 s _ 77 Try.underlying32 info_u8 hp.row (by omega) (by rw [bytesV_size]; omega)
  rw [← size_bytes s, bytesV_splice, size_bytes s] at hcp
  go_wp2_with fail
  clear hcp
  replace hp := hp.copied (splice (splice (splice (splice l 0 (be4 E)) 4 (be4 I)) 8 (be4 (s.size * 65536))) 12 s.data.toList)
  generalize w8.setRow _ _ = w9 at *
  generalize splice (splice (splice (splice l 0 (be4 E)) 4 (be4 I)) 8 (be4 (s.size * 65536))) 12 s.data.toList = l4 at *
  have hsz : (⟨(List.take 124 l4).toArray⟩ : ByteArray).size ≤ maxLen := by
    show (List.take 124 l4).toArray.size ≤ maxLen
    simp [maxLen]; omega
  have hcv := conv_blk hp.drew.row 0 124 128 (by omega) 32 5 9 Try.underlying32 Try.underlying5 Try.underlying9
  go_region_with (first
    | (go_at_call 39; refine (sum_any _ _ hsz).mono ?_; rintro e w10 ⟨rfl, hb10⟩)
    | (go_at_call 38; refine (putLow_any (w.heap.size + 1) 124 4 4 _ _ _ _ (Crc.sum_lt _) (hp.drew.more hb10).row (by omega) (by omega) (by omega)).mono ?_; rintro e w11 ⟨rfl, hg, hb⟩))
  replace hp := (hp.drew.more hb10).grown hg hb
  have hS := hp.row
  rw [← HR.out] at hS
  have hcv2 := conv_blk hS 0 128 128 (by rw [sect_len E I s hl]; omega) 32 5 9 Try.underlying32 Try.underlying5 Try.underlying9
  go_wp2
  go_ret2
  refine ⟨?_, hp.below⟩
  show Ending.returned (.tuple #[.string ⟨(List.take 128 (sect E I s)).toArray⟩, .int .i64 0]) = _
  rw [List.take_of_length_le (by rw [sect_len E I s hl]; omega)]
end Go.Proofs.Ytbjpnkjddfpmpaa
