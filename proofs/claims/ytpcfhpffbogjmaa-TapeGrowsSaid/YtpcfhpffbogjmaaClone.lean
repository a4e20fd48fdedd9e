/- strings.Clone: the same text, in memory of its own. -/
import Derived.Test.YtpcfhpffbogjmaaBytes
namespace Go.Proofs.Ytpcfhpffbogjmaa
open Go.RowKit

set_option maxRecDepth 100000 in
set_option maxHeartbeats 2000000 in
theorem clone_any (s : ByteArray) (w : World) (hl : s.size ≤ 281474976710656) :
    Calls Try.prog 58 #[.string s] w fun e w' => e = .returned (.string s) ∧ Below w.heap.size w w' := by
  by_cases h0 : s.size = 0
  · obtain rfl : s = ⟨#[]⟩ := by
      apply ByteArray.ext
      exact Array.eq_empty_of_size_eq_zero h0
    go_enter Try.func58, Try.ntmps58
    go_wp2
    go_ret
    exact ⟨rfl, Below.refl _ _⟩
  · obtain ⟨i, hi, hz, hs1, hs2⟩ : ∃ i, Try.prog.info? 5 = some i ∧ i.zero = some (.int .u8 0) ∧ i.size = 1 ∧ i.bytes = 1 := by
      have h : (Try.prog.info? 5).map (fun i => (i.zero, i.size, i.bytes)) = some (some (.int .u8 0), 1, 1) := by kernel_rfl
      obtain ⟨i, hi, he⟩ := Option.map_eq_some_iff.1 h
      simp only [Prod.mk.injEq] at he
      exact ⟨i, hi, he.1, he.2.1, he.2.2⟩
    obtain ⟨M, hM⟩ : ∃ M, M = madeCells (Value.int .u8 0).cells (((s.size : Nat) : Int).toNat * i.size) := ⟨_, rfl⟩
    have hMs : M.size = s.size := by rw [hM, size_madeCells, hs1]; simp
    have hmk : ∀ W : World, (Instr.makeSlice 51 (.int .i64 (s.size : Int)) (.int .i64 (s.size : Int))).run Try.prog W = .ok (.slice (some ⟨W.heap.size, 0, none⟩) s.size s.size) (W.alloc (.cells M 5)) := fun W => by
      have h := run_make (P := Try.prog) W 51 5 i (.int .u8 0) Try.underlying51 hi hz .i64 .i64 (s.size : Int) (s.size : Int) (by omega) (by omega) (by rw [hs2]; omega) (by omega)
      rw [← hM] at h
      simpa using h
    clear hM
    have hnew := Blk.new w 5 M
    have hcp := Lib.run_copy_row_string (P := Try.prog) (w.alloc (.cells M 5)) 51 9 3 5 w.heap.size 0 s.size s.size s M 5 Try.underlying51 info_u8 hnew (Nat.le_refl _) (by omega)
    have eY : (M.toList.take 0 ++ Lib.byteCells s.data.toList ++ M.toList.drop (0 + s.size)).toArray = bytesV s.data.toList := by
      rw [List.take_zero, List.nil_append, List.drop_of_length_le (by rw [Array.length_toList]; omega), List.append_nil]
      rfl
    rw [eY] at hcp
    have hrow := hnew.setRow (bytesV s.data.toList)
    have hne : s.data.toList ≠ [] := fun e => h0 (by rw [← size_bytes, e]; rfl)
    have hus := Lib.run_unsafeString_row (P := Try.prog) ((w.alloc (.cells M 5)).setRow w.heap.size (bytesV s.data.toList)) 129 3 9 5 Try.underlying129 (by kernel_rfl) w.heap.size (bytesV s.data.toList).size
      (by unfold World.shape?; rw [show ((w.alloc (.cells M 5)).setRow w.heap.size (bytesV s.data.toList)).heap[w.heap.size]? = _ from hrow]) s.data.toList hne (by rw [bytesV_size]; omega) (by rw [size_bytes]; omega)
      (fun j x hx => by
        rw [show ((⟨w.heap.size, 0, none⟩ : Addr).add j) = ⟨w.heap.size, j, none⟩ from by unfold Addr.add; split <;> simp_all, hrow.cell]
        simp [bytesV, hx])
    rw [size_bytes] at hus
    clear eY hMs hnew
    have hb : Below w.heap.size w (((w.alloc (.cells M 5)).setRow w.heap.size (bytesV s.data.toList)).freeze ⟨w.heap.size, 0, none⟩ s.size) :=
      Lib.below_freeze (below_setRow ((Below.refl _ _).alloc (Nat.le_refl _) _) (Nat.le_refl _) _) (Nat.le_refl _) _
    have hB := Lib.hid hb
    clear hb hrow
    go_enter Try.func58, Try.ntmps58
    go_wp2
    go_ret
    exact ⟨rfl, hB.out⟩

theorem cloneS_any (s : ByteArray) (w : World) (hl : s.size ≤ 281474976710656) :
    Calls Try.prog 42 #[.string s] w fun e w' => e = .returned (.string s) ∧ Below w.heap.size w w' := by
  go_enter Try.func42, Try.ntmps42
  go_wp2_with fail
  refine (clone_any s _ hl).mono ?_
  rintro e w1 ⟨rfl, hb⟩
  go_wp2
  go_ret
  exact ⟨rfl, hb⟩
end Go.Proofs.Ytpcfhpffbogjmaa
