/- Numbers as four bytes, as the document reads them (careenref01). -/
import Derived.Test.YtjnnkbbgeckgkaaNum4
namespace Go.Proofs.Ytjnnkbbgeckgkaa
open Go.RowKit

set_option maxRecDepth 100000 in
set_option maxHeartbeats 1000000 in
theorem number_any (s : ByteArray) (w : World) (h4 : 4 ≤ s.size) :
    Calls Try.prog 30 #[.string s] w fun e w' => e = .returned (.int .u32 (num4 s.data.toList : Nat)) ∧ Below w.heap.size w w' := by
  have b0 : (s[0].toNat : Int) < 256 := by have := s[0].toNat_lt; omega
  have b1 : (s[1].toNat : Int) < 256 := by have := s[1].toNat_lt; omega
  have b2 : (s[2].toNat : Int) < 256 := by have := s[2].toNat_lt; omega
  have b3 : (s[3].toNat : Int) < 256 := by have := s[3].toNat_lt; omega
  have i0 : 0 < s.size := by omega
  have i1 : (1 : Int) < s.size := by omega
  have i2 : (2 : Int) < s.size := by omega
  have i3 : (3 : Int) < s.size := by omega
  go_enter Try.func30, Try.ntmps30
  go_wp2
  go_region
  all_goals
    go_wp2
    go_ret
    refine ⟨?_, (Below.refl _ _).drew⟩
    rw [num4, getD_at s 0 (by omega), getD_at s 1 (by omega), getD_at s 2 (by omega), getD_at s 3 (by omega)]
    congr 1
end Go.Proofs.Ytjnnkbbgeckgkaa
