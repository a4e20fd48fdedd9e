/- 'int(uint(i) % m)'; nothing of the program is imported. -/
import Derived.Test.YtpcfhpffbogjmaaBase
import Derived.IntWalk
namespace Go.Proofs.Ytpcfhpffbogjmaa
open Go.RowKit

def modN (i m : Int) : Nat := (IntKind.u64.wrap i % m).toNat
theorem modN_pos (i : Int) : 0 ≤ IntKind.u64.wrap i := by rw [IntKind.wrap_u64]; omega
theorem modN_lt (i m : Int) (hm : 0 < m) : (modN i m : Int) < m := by
  have h1 := Int.emod_lt_of_pos (IntKind.u64.wrap i) hm
  have h2 := Int.emod_nonneg (IntKind.u64.wrap i) (Int.ne_of_gt hm)
  unfold modN; omega
theorem modN_eq (i m : Int) (hm : 0 < m) (hm2 : m ≤ 1000000000) : wrap64 ((IntKind.u64.wrap i).tmod m) = (modN i m : Int) := by
  have h1 := Int.emod_lt_of_pos (IntKind.u64.wrap i) hm
  have h2 := Int.emod_nonneg (IntKind.u64.wrap i) (Int.ne_of_gt hm)
  rw [Int.tmod_eq_emod_of_nonneg (modN_pos i)]
  unfold modN
  generalize IntKind.u64.wrap i % m = x at *
  unfold wrap64
  omega
theorem size_eq (n : Int) (k : Int) (hk0 : 0 < k) (hk : k ≤ 1000) : ∃ N : Nat, 8 ≤ N ∧ (N : Int) < 8 + k ∧ wrap64 (8 + wrap64 ((IntKind.u64.wrap n).tmod k)) = (N : Int) := by
  have h1 := modN_eq n k hk0 (by omega)
  have h2 := modN_lt n k hk0
  refine ⟨8 + modN n k, by omega, by omega, ?_⟩
  rw [h1]
  unfold wrap64
  omega
end Go.Proofs.Ytpcfhpffbogjmaa
