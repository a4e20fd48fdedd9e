/- Package slab: what is packed is unpacked; the contracts, with the texts under a name. -/
import Derived.Test.YtbjpnkjddfpmpaaSlabF
namespace Go.Proofs.Ytbjpnkjddfpmpaa
open Go.RowKit

/-- The text that a slab is packed to. -/
def packed (E I : Nat) (b : ByteArray) : ByteArray := ⟨(sect E I b).toArray⟩
theorem packed_data (E I : Nat) (b : ByteArray) : (packed E I b).data.toList = sect E I b := rfl
theorem sect_split (E I : Nat) (b : ByteArray) (hb : b.size ≤ 112) :
    sect E I b = be4 E ++ (be4 I ++ (0 :: UInt8.ofNat b.size :: 0 :: 0 :: (b.data.toList ++ (List.replicate (112 - b.size) 0 ++ le4 (Crc.sum (front E I b)))))) := by
  rw [sect_eq E I b hb]
  unfold front
  simp only [List.append_assoc, List.cons_append, List.nil_append]
section
variable {E I : Nat} {b : ByteArray} (hE : E < 4294967296) (hI : I < 4294967296) (hb : b.size ≤ 112)
include hb in
theorem packed_size : (packed E I b).size = 128 := by rw [← size_bytes, packed_data, sect_len E I b hb]
include hE hb in
theorem partE_packed : partE (packed E I b) = E := by
  unfold partE
  rw [packed_data, sect_split E I b hb, num4_be4 E hE]
include hI hb in
theorem partI_packed : partI (packed E I b) = I := by
  unfold partI
  rw [packed_data, sect_split E I b hb, List.drop_left' (be4_len E), num4_be4 I hI]
include hb in
theorem partN_packed : partN (packed E I b) = b.size := by
  unfold partN
  rw [packed_data, sect_split E I b hb]
  simp [be4, List.getD_eq_getElem?_getD]
  omega
include hb in
theorem partB_packed : partB (packed E I b) = b := by
  unfold partB
  rw [partN_packed hb]
  apply str_ext
  rw [Lib.extract_data, packed_data, sect_split E I b hb]
  have e : ∀ r : List UInt8, List.drop 12 (be4 E ++ (be4 I ++ (0 :: UInt8.ofNat b.size :: 0 :: 0 :: r))) = r := fun r => by simp [be4]
  rw [e, show 12 + b.size - 12 = b.data.toList.length from by rw [size_bytes]; omega, List.take_left' rfl]
include hE hI hb in
theorem isSlab_packed : IsSlab (packed E I b) := by
  refine ⟨packed_size hb, ?_, by rw [partN_packed hb]; exact hb, by rw [partE_packed hE hb, partI_packed hI hb, partB_packed hb, packed_data]⟩
  rw [packed_data, sect_split E I b hb]
  simp [be4, List.getD_eq_getElem?_getD]
end
/-- A slab's sector is packed of its parts. -/
theorem packed_parts {s : ByteArray} (h : IsSlab s) : packed (partE s) (partI s) (partB s) = s := str_ext h.2.2.2
theorem partB_size {s : ByteArray} (h : IsSlab s) : (partB s).size ≤ 112 := by
  unfold partB
  have := h.2.2.1
  rw [ByteArray.size_extract]
  omega

def zeros : ByteArray := ⟨(List.replicate 128 0).toArray⟩
theorem zeros_not : ¬ IsSlab zeros := fun h => absurd h.2.2.2 (by decide +kernel)
def letterA : ByteArray := ⟨#[97]⟩
theorem awake_front : (packed 1 2 letterA).extract 0 13 = ⟨#[0, 0, 0, 1, 0, 0, 0, 2, 0, 1, 0, 0, 97]⟩ := by decide +kernel
theorem awake_sum : Crc.sum [49, 50, 51, 52, 53, 54, 55, 56, 57] = 3421780262 := by decide +kernel

theorem pack_c (E I : Nat) (b : ByteArray) (w : World) (hE : E < 4294967296) (hI : I < 4294967296) (hb : b.size ≤ 112) :
    Calls Try.prog 24 #[.agg #[.int .u32 E, .int .u32 I, .string b]] w fun e w' => e = .returned (.tuple #[.string (packed E I b), .int .i64 0]) ∧ Below w.heap.size w w' := pack_any E I b w hE hI hb
theorem zero_c (w : World) : Calls Try.prog 18 #[] w fun e w' => e = .returned (.string zeros) ∧ Below w.heap.size w w' := zero_any w
theorem unpackNo_c (s : ByteArray) (w : World) (h : ¬ IsSlab s) :
    Calls Try.prog 35 #[.string s] w fun e w' => e = .returned (.tuple #[.agg #[.int .u32 0, .int .u32 0, .string ⟨#[]⟩], .int .i64 8]) ∧ Below w.heap.size w w' := unpack_no s w h
theorem unpackYes_c (s : ByteArray) (w : World) (h : IsSlab s) :
    Calls Try.prog 35 #[.string s] w fun e w' => e = .returned (.tuple #[.agg #[.int .u32 (partE s), .int .u32 (partI s), .string (partB s)], .int .i64 0]) ∧ Below w.heap.size w w' := unpack_yes s w h
end Go.Proofs.Ytbjpnkjddfpmpaa
