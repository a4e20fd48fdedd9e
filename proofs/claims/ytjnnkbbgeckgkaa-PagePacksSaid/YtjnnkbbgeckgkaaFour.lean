/- Numbers as four bytes, as the document writes them (careenref01). -/
import Derived.Test.YtjnnkbbgeckgkaaNum4
namespace Go.Proofs.Ytjnnkbbgeckgkaa
open Go.RowKit

/-- Four bytes that were written out, as a text. -/
theorem conv4 (w : World) (x0 x1 x2 x3 : Nat) (a b c d : Int) (ha : a = (x0 : Int) % 256) (hb : b = (x1 : Int) % 256) (hc : c = (x2 : Int) % 256) (hd : d = (x3 : Int) % 256) :
    (convert 59 9 (.slice (some ⟨w.heap.size, 0, none⟩) 4 4)).run Try.prog (w.alloc (.cells #[.int .u8 a, .int .u8 b, .int .u8 c, .int .u8 d] 5)) =
      .ok (.string ⟨([UInt8.ofNat x0, UInt8.ofNat x1, UInt8.ofNat x2, UInt8.ofNat x3] : List UInt8).toArray⟩) (w.alloc (.cells #[.int .u8 a, .int .u8 b, .int .u8 c, .int .u8 d] 5)) := by
  have e : #[Value.int .u8 a, .int .u8 b, .int .u8 c, .int .u8 d] = bytesV [UInt8.ofNat x0, UInt8.ofNat x1, UInt8.ofNat x2, UInt8.ofNat x3] := by
    simp [bytesV, ha, hb, hc, hd]
  rw [e]
  exact conv_blk (Blk.new w 5 _) 0 4 4 (by simp) 59 5 9 Try.underlying59 Try.underlying5 Try.underlying9

set_option maxRecDepth 100000 in
set_option maxHeartbeats 1000000 in
theorem four_any (n : Nat) (hn : n < 4294967296) (w : World) :
    Calls Try.prog 31 #[.int .u32 n] w fun e w' => e = .returned (.string ⟨(be4 n).toArray⟩) ∧ Below w.heap.size w w' := by
  have hc := conv4 w (n / 16777216) (n / 65536) (n / 256) n ((n : Int) / 16777216) ((n : Int) / 65536 % 256) ((n : Int) / 256 % 256) ((n : Int) % 256) (by omega) (by omega) (by omega) (by omega)
  go_enter Try.func31, Try.ntmps31
  go_wp2
  go_ret
  exact ⟨rfl, (Below.refl _ _).alloc (Nat.le_refl _) _⟩
end Go.Proofs.Ytjnnkbbgeckgkaa
