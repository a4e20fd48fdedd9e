/- Layer 1's statements: the walks of the laws. -/
import Derived.Test.YtdhpghciegiikaaSlabG
namespace Go.Proofs.Ytdhpghciegiikaa
open Go.RowKit

theorem walkSlabReads (s : ByteArray) (w : World) (_ : s.size ≤ maxLen) : Calls Try.prog 4 #[.string s] w fun e w' => e = .returned (.bool true) ∧ Below w.heap.size w w' := by
  by_cases hl : (1000 : Int) < s.size
  · exact slabReads_long s w hl
  · by_cases h : IsSlab s
    · exact slabReads_yes s w (by omega) h
    · exact slabReads_no s w (by omega) h
end Go.Proofs.Ytdhpghciegiikaa
