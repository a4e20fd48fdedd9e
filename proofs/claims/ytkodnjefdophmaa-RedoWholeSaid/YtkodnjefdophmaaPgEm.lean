/- The document's own empty page (careenref06). -/
import Derived.Test.YtkodnjefdophmaaPgC
namespace Go.Proofs.Ytkodnjefdophmaa
open Go.RowKit

set_option maxRecDepth 100000 in
set_option maxHeartbeats 2000000 in
theorem pgRefEmpty_any (w : World) : Calls Try.prog 19 #[] w fun e w' => e = .returned (.agg #[.int .i64 0, .string noughts]) ∧ Below w.heap.size w w' := by
  have hmk : (Instr.makeSlice 33 (.int .i64 220) (.int .i64 220)).run Try.prog (w.alloc (.cells #[.int .i64 0, .string ⟨#[]⟩] 30)) = .ok (.slice (some ⟨w.heap.size + 1, 0, none⟩) 220 220) ((w.alloc (.cells #[.int .i64 0, .string ⟨#[]⟩] 30)).alloc (.cells (bytesV (List.replicate 220 0)) 5)) := by
    obtain ⟨i, hi, hz, hs1, hs2⟩ : ∃ i, Try.prog.info? 5 = some i ∧ i.zero = some (.int .u8 0) ∧ i.size = 1 ∧ i.bytes = 1 := by
      have h : (Try.prog.info? 5).map (fun i => (i.zero, i.size, i.bytes)) = some (some (.int .u8 0), 1, 1) := by kernel_rfl
      obtain ⟨i, hi, he⟩ := Option.map_eq_some_iff.1 h
      simp only [Prod.mk.injEq] at he
      exact ⟨i, hi, he.1, he.2.1, he.2.2⟩
    have h := run_make (P := Try.prog) (w.alloc (.cells #[.int .i64 0, .string ⟨#[]⟩] 30)) 33 5 i (.int .u8 0) Try.underlying33 hi hz .i64 .i64 220 220 (by omega) (by omega) (by rw [hs2]; omega) (by omega)
    rw [hs1] at h
    have e : madeCells (Value.int .u8 0).cells ((220 : Int).toNat * 1) = bytesV (List.replicate 220 0) := by kernel_rfl
    rw [e] at h
    simpa using h
  have B0 := Blk.new (w.alloc (.cells #[.int .i64 0, .string ⟨#[]⟩] 30)) 5 (bytesV (List.replicate 220 0))
  simp only [World.size_alloc] at B0
  have hcv := conv_blk B0 0 220 220 (by simp) 33 5 9 Try.underlying33 Try.underlying5 Try.underlying9
  rw [List.drop_zero, List.take_of_length_le (by simp)] at hcv
  have R0 := (Blk.new w 30 #[.int .i64 0, .string ⟨#[]⟩]).alloc (.cells (bytesV (List.replicate 220 0)) 5)
  have hB := Lib.hid (((Below.refl w.heap.size w).alloc (Nat.le_refl _) (.cells #[.int .i64 0, .string ⟨#[]⟩] 30)).alloc (by simp) (.cells (bytesV (List.replicate 220 0)) 5))
  clear B0
  generalize bytesV (List.replicate 220 0) = cs at *
  go_enter Try.func19, Try.ntmps19
  go_wp2_with (refine wpList_store_row rfl 30 _ _ rfl w.heap.size _ rfl rfl 30 _ R0 (by kernel_rfl) (by simp) (by simp [Value.oneCell']) ?_)
  exact bodyPost_ret (results_cell_row rfl _ _ w.heap.size 30 _ (0, 0) _ rfl (R0.setRow _) Try.underlying30 rfl (by kernel_rfl)) rfl ⟨rfl, below_setRow hB.out (Nat.le_refl _) _⟩
end Go.Proofs.Ytkodnjefdophmaa
