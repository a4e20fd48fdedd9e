/- Package chain: undo (what undoes an update); find. -/
import Derived.Test.YtecalnglidjmgaaRegion
import Derived.Test.YtecalnglidjmgaaChD
namespace Go.Proofs.Ytecalnglidjmgaa
open Go.RowKit

theorem chClone (s : ByteArray) (w : World) (hl : s.size ≤ 281474976710656) :
    Calls Try.prog 35 #[.string s] w fun e w' => e = .returned (.string s) ∧ Below w.heap.size w w' := by
  have K := Lib.hid (clone_any s w hl)
  clear hl
  go_enter Try.func35, Try.ntmps35
  go_wp2_with fail
  refine K.out.mono ?_
  rintro e w1 ⟨rfl, hb⟩
  go_wp2
  go_ret
  exact ⟨rfl, hb⟩

set_option maxRecDepth 100000 in
set_option maxHeartbeats 4000000 in
theorem chUndo (r : Rc) (vt vp : Value) (ht : SlV vt) (hp : SlV vp) (hs : r.before.size ≤ 300) (w : World) :
    Calls Try.prog 28 #[recV r vt vp] w fun e w' => e = .returned (recV (Rc.und r.txn 0 r.prev r.page r.off r.before) (.slice none 0 0) (.slice none 0 0)) ∧ Below w.heap.size w w' := by
  have K := Lib.hid (fun W => chClone r.before W (by omega))
  clear hs
  obtain ⟨ta, tn, tc, rfl⟩ := ht
  obtain ⟨pa, pn, pc, rfl⟩ := hp
  unfold recV recCells
  obtain ⟨A, hA⟩ : ∃ A : Array Value, A = #[.int .i64 r.kind, .int .i64 r.txn, .int .i64 r.page, .int .i64 r.off, .int .i64 r.prev, .int .i64 r.next, .int .i64 r.beg, .string r.before, .string r.after, .slice ta tn tc, .slice pa pn pc] := ⟨_, rfl⟩
  obtain ⟨Z, hZ⟩ : ∃ Z : Array Value, Z = #[.int .i64 0, .int .i64 0, .int .i64 0, .int .i64 0, .int .i64 0, .int .i64 0, .int .i64 0, .string ⟨#[]⟩, .string ⟨#[]⟩, .slice none 0 0, .slice none 0 0] := ⟨_, rfl⟩
  have X0 := (Blk.new w 45 A).alloc (.cells Z 45)
  have R0 := Blk.new (w.alloc (.cells A 45)) 45 Z
  have hB := ((Below.refl w.heap.size w).alloc (Nat.le_refl _) (.cells A 45)).alloc (by simp) (.cells Z 45)
  simp only [World.size_alloc] at R0
  go_enter Try.func28, Try.ntmps28
  go_upto_region 1 with fail
  rw [← hA]
  change Code.wp _ _ _ _ ((w.alloc (.cells A 45)).alloc (.cells #[.int .i64 0, .int .i64 0, .int .i64 0, .int .i64 0, .int .i64 0, .int .i64 0, .int .i64 0, .string ⟨#[]⟩, .string ⟨#[]⟩, .slice none 0 0, .slice none 0 0] 45))
  rw [← hZ]
  generalize (w.alloc (.cells A 45)).alloc (.cells Z 45) = w1 at *
  have C : Hid (∀ W, Below w1.heap.size w1 W → Blk W w.heap.size 45 A) := fun W hW => X0.keep hW X0.lt
  clear X0
  have HA := Lib.hid hA
  have HZ := Lib.hid hZ
  clear hA hZ
  refine' wp_region_conf 12 (.is _ :: .is _ :: .is _ :: .is _ :: .is _ :: .is _ :: .is _ :: .is _ :: .is _ :: .is _ :: .is _ :: .is _ :: []) (by kernel_rfl) (by kernel_rfl) (by kernel_rfl) (by kernel_rfl) rfl ?main
  case main =>
    iterate 12
      refine obs_is (fun w4 hE4 _ => ?_) ?_
      · have hb4 := (Below.refl w1.heap.size w1).drew.trans hE4
        have x4 := C.out w4 hb4
        have c1 := x4.cell 1
        have c2 := x4.cell 2
        have c3 := x4.cell 3
        have c4 := x4.cell 4
        have c7 := x4.cell 7
        rw [HA.out] at c1 c2 c3 c4 c7
        simp at c1 c2 c3 c4 c7
        go_wp2_with (go_at_call 35; refine (K.out _).mono ?_; rintro e w5 ⟨rfl, hb5⟩)
        first | exact post_is hb5 | exact post_is (Below.refl _ _)
      simp only [Act.put, List.setIfInBounds_toArray, List.set_cons_zero, List.set_cons_succ]
    refine obs_end fun w3 hE3 _ => ?_
    have B3 := (Below.refl w1.heap.size w1).drew.trans hE3
    have R3 := R0.keep B3 R0.lt
    have hB3 := hB.trans (B3.mono hB.size)
    clear hE3 R0 C B3 hB
    change wpList _ _ _ _ _ _
    go_wp2_with (refine wpList_store_row rfl 45 _ _ rfl (w.heap.size + 1) _ rfl rfl 45 _ R3 (by kernel_rfl) (by rw [HZ.out]; simp) (by simp [Value.oneCell']) ?_)
    exact bodyPost_ret (results_cell_row rfl _ _ (w.heap.size + 1) 45 _ (0, 0) _ rfl (R3.setRow _) Try.underlying45 rfl (by kernel_rfl)) rfl ⟨rfl, below_setRow hB3 (by omega) _⟩
end Go.Proofs.Ytecalnglidjmgaa
