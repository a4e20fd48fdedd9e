/- Numbers as four bytes: plain. -/
import Derived.Test.YtpcfhpffbogjmaaBytes
import Derived.Test.YtpcfhpffbogjmaaBe
namespace Go.Proofs.Ytpcfhpffbogjmaa
open Go.RowKit

theorem or_u32 (a b : Nat) (ha : a < 16777216) (hb : b < 256) : bits .or .u32 ((a : Int) * 256 % 4294967296) (b : Int) = ((a * 256 + b : Nat) : Int) := by
  have h := u32_or_nat (a * 256) b (by omega) (by omega)
  rw [show (a : Int) * 256 % 4294967296 = ((a * 256 : Nat) : Int) from by omega, h]
  congr 1
  have := Nat.shiftLeft_add_eq_or_of_lt (b := b) (i := 8) (by omega) a
  rw [Nat.shiftLeft_eq] at this
  exact this.symm
theorem or_be (a b c d : Nat) (ha : a < 256) (hb : b < 256) (hc : c < 256) (hd : d < 256) :
    bits .or .u32 (bits .or .u32 (bits .or .u32 (bits .or .u32 0 (a : Int) * 256 % 4294967296) (b : Int) * 256 % 4294967296) (c : Int) * 256 % 4294967296) (d : Int) = ((a * 16777216 + b * 65536 + c * 256 + d : Nat) : Int) := by
  have h0 : bits .or .u32 0 (a : Int) = (a : Int) := by
    have := u32_or_nat 0 a (by omega) (by omega)
    simpa using this
  rw [h0, or_u32 a b (by omega) hb, or_u32 _ c (by omega) hc, or_u32 _ d (by omega) hd]
  omega
/-- Four bytes as a number, the highest first. -/
def num4 (l : List UInt8) : Nat := (l.getD 0 0).toNat * 16777216 + (l.getD 1 0).toNat * 65536 + (l.getD 2 0).toNat * 256 + (l.getD 3 0).toNat
theorem set4 (l : List UInt8) (o : Nat) (a b c d : UInt8) (h : o + 4 ≤ l.length) :
    (((l.set o a).set (o + 1) b).set (o + 2) c).set (o + 3) d = splice l o [a, b, c, d] := by
  rw [splice_cons _ _ _ _ (by omega), splice_cons _ _ _ _ (by simp; omega), splice_cons _ _ _ _ (by simp; omega), splice_cons _ _ _ _ (by simp; omega), splice_nil]
theorem num4_be4 (n : Nat) (h : n < 4294967296) (l : List UInt8) : num4 (be4 n ++ l) = n := by
  unfold num4 be4
  simp [List.getD_eq_getElem?_getD]
  omega
end Go.Proofs.Ytpcfhpffbogjmaa
