/- Package slab: a slab's sector is unpacked to its parts, any other text to none. -/
import Derived.Test.YtbjpnkjddfpmpaaSlabE
namespace Go.Proofs.Ytbjpnkjddfpmpaa
open Go.RowKit

theorem getD_nat (s : ByteArray) (i : Nat) (h : i < s.size) : (s.data.toList.getD i 0).toNat = s[i].toNat := by rw [getD_at s i h]
/-- A slab's sector is unpacked to its parts; any other text to none: the program's answer and the document's. -/
theorem unpack_yes (s : ByteArray) (w : World) (h : IsSlab s) :
    Calls Try.prog 35 #[.string s] w fun e w' => e = .returned (.tuple #[slabV (partE s) (partI s) (partB s), .int .i64 0]) ∧ Below w.heap.size w w' := by
  obtain ⟨hz, h0, hn, hs⟩ := h
  have h8 : s[8]'(by omega) = 0 := by rw [← getD_at s 8 (by omega)]; exact h0
  have hn' : partN s = (s[9]'(by omega)).toNat := getD_nat s 9 (by omega)
  exact unpack_rest s w hz (by omega) (by omega) (partN s) (show _ = _ by rw [hn', h8]; simp) hn true (by simpa [partB] using hs)
theorem unpack_no (s : ByteArray) (w : World) (h : ¬ IsSlab s) :
    Calls Try.prog 35 #[.string s] w fun e w' => e = .returned (.tuple #[noSlab, .int .i64 8]) ∧ Below w.heap.size w w' := by
  by_cases hz : s.size = 128
  · by_cases hc : 112 < (s[8]'(by omega)).toNat * 256 + (s[9]'(by omega)).toNat
    · exact unpack_len s w hz (by omega) (by omega) hc
    · have h8 : (s[8]'(by omega)).toNat = 0 := by omega
      have hn' : partN s = (s[9]'(by omega)).toNat := getD_nat s 9 (by omega)
      have h0 : s.data.toList.getD 8 0 = 0 := by
        rw [getD_at s 8 (by omega)]
        exact UInt8.toNat_inj.1 h8
      exact unpack_rest s w hz (by omega) (by omega) (partN s) (show _ = _ by rw [hn', h8]; simp) (by omega) false
        (by constructor
            · intro hs; exact absurd ⟨hz, h0, by omega, hs⟩ h
            · intro hf; cases hf)
  · exact unpack_size s w hz
end Go.Proofs.Ytbjpnkjddfpmpaa
