/- Numbers as four bytes, as the document has them (careenref01): written, and read. -/
import Derived.Test.YtaidcgbhkhdaiaaBytes
import Derived.Test.YtaidcgbhkhdaiaaBe
namespace Go.Proofs.Ytaidcgbhkhdaiaa
open Go.RowKit

theorem or_u32 (a b : Nat) (ha : a < 16777216) (hb : b < 256) : bits .or .u32 ((a : Int) * 256 % 4294967296) (b : Int) = ((a * 256 + b : Nat) : Int) := by
  have h := u32_or_nat (a * 256) b (by omega) (by omega)
  rw [show (a : Int) * 256 % 4294967296 = ((a * 256 : Nat) : Int) from by omega, h]
  congr 1
  have := Nat.shiftLeft_add_eq_or_of_lt (b := b) (i := 8) (by omega) a
  rw [Nat.shiftLeft_eq] at this
  exact this.symm
theorem or_be (a b c d : Nat) (ha : a < 256) (hb : b < 256) (hc : c < 256) (hd : d < 256) :
    bits .or .u32 (bits .or .u32 (bits .or .u32 (bits .or .u32 0 (a : Int) * 256 % 4294967296) (b : Int) * 256 % 4294967296) (c : Int) * 256 % 4294967296) (d : Int) = ((a * 16777216 + b * 65536 + c * 256 + d : Nat) : Int) := by
  have h0 : bits .or .u32 0 (a : Int) = (a : Int) := by
    have := u32_or_nat 0 a (by omega) (by omega)
    simpa using this
  rw [h0, or_u32 a b (by omega) hb, or_u32 _ c (by omega) hc, or_u32 _ d (by omega) hd]
  omega
/-- Four bytes as a number, the highest first. -/
def num4 (l : List UInt8) : Nat := (l.getD 0 0).toNat * 16777216 + (l.getD 1 0).toNat * 65536 + (l.getD 2 0).toNat * 256 + (l.getD 3 0).toNat

set_option maxRecDepth 100000 in
set_option maxHeartbeats 1000000 in
theorem number_any (s : ByteArray) (w : World) (h4 : 4 ≤ s.size) :
    Calls Try.prog 42 #[.string s] w fun e w' => e = .returned (.int .u32 (num4 s.data.toList : Nat)) ∧ Below w.heap.size w w' := by
  have b0 : (s[0].toNat : Int) < 256 := by have := s[0].toNat_lt; omega
  have b1 : (s[1].toNat : Int) < 256 := by have := s[1].toNat_lt; omega
  have b2 : (s[2].toNat : Int) < 256 := by have := s[2].toNat_lt; omega
  have b3 : (s[3].toNat : Int) < 256 := by have := s[3].toNat_lt; omega
  have i0 : 0 < s.size := by omega
  have i1 : (1 : Int) < s.size := by omega
  have i2 : (2 : Int) < s.size := by omega
  have i3 : (3 : Int) < s.size := by omega
  go_enter Try.func42, Try.ntmps42
  go_wp2
  go_region
  all_goals
    go_wp2
    go_ret
    refine ⟨?_, (Below.refl _ _).drew⟩
    rw [num4, getD_at s 0 (by omega), getD_at s 1 (by omega), getD_at s 2 (by omega), getD_at s 3 (by omega)]
    congr 1

/-- Four bytes that were written out, as a text. -/
theorem conv4 (w : World) (x0 x1 x2 x3 : Nat) (a b c d : Int) (ha : a = (x0 : Int) % 256) (hb : b = (x1 : Int) % 256) (hc : c = (x2 : Int) % 256) (hd : d = (x3 : Int) % 256) :
    (convert 66 9 (.slice (some ⟨w.heap.size, 0, none⟩) 4 4)).run Try.prog (w.alloc (.cells #[.int .u8 a, .int .u8 b, .int .u8 c, .int .u8 d] 5)) =
      .ok (.string ⟨([UInt8.ofNat x0, UInt8.ofNat x1, UInt8.ofNat x2, UInt8.ofNat x3] : List UInt8).toArray⟩) (w.alloc (.cells #[.int .u8 a, .int .u8 b, .int .u8 c, .int .u8 d] 5)) := by
  have e : #[Value.int .u8 a, .int .u8 b, .int .u8 c, .int .u8 d] = bytesV [UInt8.ofNat x0, UInt8.ofNat x1, UInt8.ofNat x2, UInt8.ofNat x3] := by
    simp [bytesV, ha, hb, hc, hd]
  rw [e]
  exact conv_blk (Blk.new w 5 _) 0 4 4 (by simp) 66 5 9 Try.underlying66 Try.underlying5 Try.underlying9

set_option maxRecDepth 100000 in
set_option maxHeartbeats 1000000 in
theorem four_any (n : Nat) (hn : n < 4294967296) (w : World) :
    Calls Try.prog 37 #[.int .u32 n] w fun e w' => e = .returned (.string ⟨(be4 n).toArray⟩) ∧ Below w.heap.size w w' := by
  have hc := conv4 w (n / 16777216) (n / 65536) (n / 256) n ((n : Int) / 16777216) ((n : Int) / 65536 % 256) ((n : Int) / 256 % 256) ((n : Int) % 256) (by omega) (by omega) (by omega) (by omega)
  go_enter Try.func37, Try.ntmps37
  go_wp2
  go_ret
  exact ⟨rfl, (Below.refl _ _).alloc (Nat.le_refl _) _⟩
end Go.Proofs.Ytaidcgbhkhdaiaa
