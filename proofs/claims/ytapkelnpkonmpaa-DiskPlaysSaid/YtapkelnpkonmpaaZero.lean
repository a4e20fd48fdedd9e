/- Package slab: the sector of noughts. -/
import Derived.Test.YtapkelnpkonmpaaBytes
namespace Go.Proofs.Ytapkelnpkonmpaa
open Go.RowKit

theorem info_u8 : (Try.prog.info? 5).map (·.size) = some 1 := by kernel_rfl
theorem zero_run (w : World) : (zeroValue 81).run Try.prog w = .ok (.agg (bytesV (List.replicate 128 0))) w := by kernel_rfl

set_option maxRecDepth 100000 in
set_option maxHeartbeats 1000000 in
theorem zero_any (w : World) :
    Calls Try.prog 30 #[] w fun e w' => e = .returned (.string ⟨(List.replicate 128 0).toArray⟩) ∧ Below w.heap.size w w' := by
  have hz := zero_run
  generalize hl : List.replicate 128 (0 : UInt8) = l at *
  have hc := conv_blk (Blk.new w 81 (bytesV l)) 0 128 128 (by rw [← hl]; simp) 31 5 9 Try.underlying31 Try.underlying5 Try.underlying9
  have hL := Lib.hid hl
  clear hl
  go_enter Try.func30, Try.ntmps30
  go_wp2
  go_ret
  refine ⟨?_, (Below.refl _ _).alloc (Nat.le_refl _) _⟩
  show Ending.returned (.string ⟨(List.take 128 l).toArray⟩) = _
  rw [List.take_of_length_le (by rw [← hL.out]; simp)]
end Go.Proofs.Ytapkelnpkonmpaa
