/- Numbers as bytes; nothing of the program is imported. -/
import Derived.WalkKit
namespace Go.Proofs.Ytpcfhpffbogjmaa
open Go.RowKit

/-- Four bytes, the highest first. -/
def be4 (n : Nat) : List UInt8 := [UInt8.ofNat (n / 16777216), UInt8.ofNat (n / 65536), UInt8.ofNat (n / 256), UInt8.ofNat n]
theorem be4_len (n : Nat) : (be4 n).length = 4 := rfl
end Go.Proofs.Ytpcfhpffbogjmaa
