/- Texts put into texts: plain. -/
import Derived.Test.YtkodnjefdophmaaNum4
namespace Go.Proofs.Ytkodnjefdophmaa
open Go.RowKit

/-- A text with another one in it. -/
def putS (d : ByteArray) (o : Nat) (s : ByteArray) : ByteArray := ⟨(splice d.data.toList o s.data.toList).toArray⟩
theorem putS_data (d : ByteArray) (o : Nat) (s : ByteArray) : (putS d o s).data.toList = splice d.data.toList o s.data.toList := rfl
theorem putS_size {d : ByteArray} {o : Nat} {s : ByteArray} (h : o + s.size ≤ d.size) : (putS d o s).size = d.size := by
  rw [← size_bytes, putS_data, length_splice _ _ _ (by rw [size_bytes, size_bytes]; exact h), size_bytes]

theorem splice_page (X O : Nat) (d s : List UInt8) : splice (be4 X ++ d) (4 + O) s = be4 X ++ splice d O s := by
  unfold splice
  rw [List.take_append, List.drop_append, be4_len, show 4 + O - 4 = O by omega, show 4 + O + s.length - 4 = O + s.length by omega, List.take_of_length_le (by rw [be4_len]; omega), List.drop_of_length_le (by rw [be4_len]; omega), List.nil_append]
  simp only [List.append_assoc]
theorem sizeWf {s : ByteArray} (h : s.size ≤ maxLen) : (Lit.int .i64 (s.size : Int)).wf = true := by
  unfold maxLen at h
  simp [Lit.wf, IntKind.min, IntKind.max, IntKind.signed, IntKind.bits]
  omega
end Go.Proofs.Ytkodnjefdophmaa
