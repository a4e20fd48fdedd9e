/- Package slab: the sector of noughts. -/
import Derived.Test.YtbjpnkjddfpmpaaBytes
namespace Go.Proofs.Ytbjpnkjddfpmpaa
open Go.RowKit

theorem zero_run (w : World) : (zeroValue 77).run Try.prog w = .ok (.agg (bytesV (List.replicate 128 0))) w := by kernel_rfl

set_option maxRecDepth 100000 in
set_option maxHeartbeats 1000000 in
theorem zero_any (w : World) :
    Calls Try.prog 18 #[] w fun e w' => e = .returned (.string ⟨(List.replicate 128 0).toArray⟩) ∧ Below w.heap.size w w' := by
  have hz := zero_run
  generalize hl : List.replicate 128 (0 : UInt8) = l at *
  have hc := conv_blk (Blk.new w 77 (bytesV l)) 0 128 128 (by rw [← hl]; simp) 32 5 9 Try.underlying32 Try.underlying5 Try.underlying9
  have hL := Lib.hid hl
  clear hl
  go_enter Try.func18, Try.ntmps18
  go_wp2
  go_ret
  refine ⟨?_, (Below.refl _ _).alloc (Nat.le_refl _) _⟩
  show Ending.returned (.string ⟨(List.take 128 l).toArray⟩) = _
  rw [List.take_of_length_le (by rw [← hL.out]; simp)]
end Go.Proofs.Ytbjpnkjddfpmpaa
