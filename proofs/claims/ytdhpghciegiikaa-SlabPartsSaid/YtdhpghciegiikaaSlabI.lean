/- Layer 1's statements: the walk of SlabPacks. -/
import Derived.Test.YtdhpghciegiikaaSlabH
namespace Go.Proofs.Ytdhpghciegiikaa
open Go.RowKit

theorem unpackP_c (E I : Nat) (b : ByteArray) (w : World) (hE : E < 4294967296) (hI : I < 4294967296) (hb : b.size ≤ 112) :
    Calls Try.prog 13 #[.string (packed E I b)] w fun e w' => e = .returned (.tuple #[.agg #[.int .u32 E, .int .u32 I, .string b], .int .i64 0]) ∧ Below w.heap.size w w' := by
  have h := unpackYes_c (packed E I b) w (isSlab_packed hE hI hb)
  rw [partE_packed hE hb, partI_packed hI hb, partB_packed hb] at h
  exact h
section
variable (E I : Nat) (b : ByteArray) (w : World)
set_option maxRecDepth 100000 in
set_option maxHeartbeats 4000000 in
theorem slabPacks_long (hl : (1000 : Int) < b.size) :
    Calls Try.prog 3 #[.agg #[.int .u32 E, .int .u32 I, .string b]] w fun e w' => e = .returned (.bool true) ∧ Below w.heap.size w w' := by
  go_enter Try.func3, Try.ntmps3
  go_wp2_with fail
  refine (awake_any _).mono ?_
  rintro e w1 ⟨rfl, hb1⟩
  have hx := (Blk.new w 24 #[.int .u32 E, .int .u32 I, .string b]).keep hb1 (by simp)
  have hB : Below w.heap.size w w1 := ((Below.refl _ _).alloc (Nat.le_refl _) _).trans (hb1.mono (by simp))
  have c2 := hx.cellAt (i := 2) (by simp)
  simp at c2
  clear hb1 hx
  go_wp2_with fail
  refine (awake_any _).mono ?_
  rintro e w2 ⟨rfl, hb2⟩
  go_wp2
  go_ret
  exact ⟨rfl, below2 hB hb2⟩

set_option maxRecDepth 100000 in
set_option maxHeartbeats 8000000 in
theorem slabPacks_sums (hl : (b.size : Int) ≤ 1000) (V : ByteArray × Int) (hpack : ∀ W, Calls Try.prog 10 #[.agg #[.int .u32 E, .int .u32 I, .string b]] W fun e w' => e = .returned (.tuple #[.string V.1, .int .i64 V.2]) ∧ Below W.heap.size W w')
    (hcase : (112 < b.size ∧ V = (⟨#[]⟩, 1)) ∨ (b.size ≤ 112 ∧ V = (packed E I b, 0) ∧ E < 4294967296 ∧ I < 4294967296)) :
    Calls Try.prog 3 #[.agg #[.int .u32 E, .int .u32 I, .string b]] w fun e w' => e = .returned (.bool true) ∧ Below w.heap.size w w' := by
  have hm : b.size ≤ maxLen := by unfold maxLen; omega
  have hP := Lib.hid hpack
  have hC := Lib.hid hcase
  clear hpack hcase
  go_enter Try.func3, Try.ntmps3
  go_wp2_with fail
  refine (awake_any _).mono ?_
  rintro e w1 ⟨rfl, hb1⟩
  have hx := (Blk.new w 24 #[.int .u32 E, .int .u32 I, .string b]).keep hb1 (by simp)
  have hB : Below w.heap.size w w1 := ((Below.refl _ _).alloc (Nat.le_refl _) _).trans (hb1.mono (by simp))
  have c0 := hx.cellAt (i := 0) (by simp)
  have c1 := hx.cellAt (i := 1) (by simp)
  have c2 := hx.cellAt (i := 2) (by simp)
  simp at c0 c1 c2
  clear hb1
  go_wp2_with fail
  refine (hP.out _).mono ?_
  rintro e w2 ⟨rfl, hb2⟩
  replace hx := hx.keep hb2 hx.lt
  replace hB := below2 hB hb2
  clear c0 c1 c2 hb2
  go_wp2_with fail
  refine' wp_region_conf 7 [.is _, .is _, .is _, .is _, .is _, .is _, .is _] (by kernel_rfl) (by kernel_rfl) (by kernel_rfl) (by kernel_rfl) rfl ?main
  case main =>
    have bl : ∀ W, Below w2.drew.heap.size w2.drew W → W.cell? ⟨w.heap.size, 2, none⟩ = some (.string b) := fun W h => (hx.drew.keep h hx.lt).cellAt (by simp)
    iterate 2
      refine obs_is (fun w3 hE _ => ?_) ?_
      · have c := bl w3 hE
        go_wp2
        exact post_is (Below.refl _ _)
      simp only [Act.put, List.setIfInBounds_toArray, List.set_cons_zero, List.set_cons_succ]
    refine obs_is (fun w3 hE _ => ?_) ?_
    · go_wp2_with fail
      refine (sum_any b _ hm).mono ?_
      rintro e w4 ⟨rfl, hb4⟩
      go_wp2
      exact post_is hb4
    simp only [Act.put, List.setIfInBounds_toArray, List.set_cons_zero, List.set_cons_succ]
    iterate 2
      refine obs_is (fun w3 hE _ => ?_) ?_
      · have c := bl w3 hE
        go_wp2
        exact post_is (Below.refl _ _)
      simp only [Act.put, List.setIfInBounds_toArray, List.set_cons_zero, List.set_cons_succ]
    refine obs_is (fun w3 hE _ => ?_) ?_
    · go_wp2_with fail
      refine (refSum_any b _ hm).mono ?_
      rintro e w4 ⟨rfl, hb4⟩
      go_wp2
      exact post_is hb4
    simp only [Act.put, List.setIfInBounds_toArray, List.set_cons_zero, List.set_cons_succ]
    refine obs_is (fun w3 hE _ => ?_) ?_
    · go_wp2
      exact post_is (Below.refl _ _)
    simp only [Act.put, List.setIfInBounds_toArray, List.set_cons_zero, List.set_cons_succ]
    refine obs_end fun w3 hE _ => ?_
    replace hx := hx.drew.keep hE hx.lt
    replace hB := hB.drew.trans (hE.mono hB.size)
    clear bl hE
    have c2 := hx.cellAt (i := 2) (by simp)
    simp at c2
    rcases hC.out with ⟨h112, hv⟩ | ⟨h112, hv, hE, hI⟩
    · subst hv
      have h112' : (112 : Int) < b.size := by omega
      go_wp2
      go_ret
      exact ⟨rfl, hB⟩
    · subst hv
      have h112' : (b.size : Int) ≤ 112 := by omega
      have HE := Lib.hid hE
      have HI := Lib.hid hI
      clear hE hI
      go_wp2_with fail
      refine (unpackP_c E I b _ HE.out HI.out h112).mono ?_
      rintro e w4 ⟨rfl, hb4⟩
      replace hx := hx.keep hb4 hx.lt
      replace hB := below2 hB hb4
      clear c2 hb4
      have hlt : w.heap.size < w4.heap.size := hx.lt
      have ha : Blk (w4.alloc (.cells #[.int .u32 E, .int .u32 I, .string b] 24)) w.heap.size 24 #[.int .u32 E, .int .u32 I, .string b] := hx.alloc _
      have c0 := hx.cellAt (i := 0) (by simp)
      have c1 := hx.cellAt (i := 1) (by simp)
      have c2 := hx.cellAt (i := 2) (by simp)
      simp at c0 c1 c2
      go_wp2_with fail
      refine (refPack_c E I b _ HE.out HI.out h112).mono ?_
      rintro e w5 ⟨rfl, hb5⟩
      have hx5 := ha.keep hb5 ha.lt
      have hy5 := (Blk.new w4 24 #[.int .u32 E, .int .u32 I, .string b]).keep hb5 (by simp)
      replace hB := (hB.alloc hB.size (.cells #[.int .u32 E, .int .u32 I, .string b] 24)).trans (hb5.mono (by simp; have := hB.size; omega))
      clear c0 c1 c2 hx ha hb5 hC hlt
      have c0 := hx5.cellAt (i := 0) (by simp)
      have c1 := hx5.cellAt (i := 1) (by simp)
      have c2 := hx5.cellAt (i := 2) (by simp)
      have d0 := hy5.cellAt (i := 0) (by simp)
      have d1 := hy5.cellAt (i := 1) (by simp)
      have d2 := hy5.cellAt (i := 2) (by simp)
      simp at c0 c1 c2 d0 d1 d2
      go_wp2_with (refine wp_slab_eql _ _ _ rfl rfl E I E I b b rfl rfl ?_)
      go_ret
      exact ⟨rfl, hB⟩
end

theorem walkSlabPacks (E I : Nat) (b : ByteArray) (w : World) (hE : E < 4294967296) (hI : I < 4294967296) (hb : b.size ≤ maxLen) :
    Calls Try.prog 3 #[.agg #[.int .u32 E, .int .u32 I, .string b]] w fun e w' => e = .returned (.bool true) ∧ Below w.heap.size w w' := by
  by_cases hl : (1000 : Int) < b.size
  · exact slabPacks_long E I b w hl
  · by_cases h : 112 < b.size
    · exact slabPacks_sums E I b w (by omega) (⟨#[]⟩, 1) (fun W => pack_long E I b W h hb) (.inl ⟨h, rfl⟩)
    · exact slabPacks_sums E I b w (by omega) (packed E I b, 0) (fun W => pack_c E I b W hE hI (by omega)) (.inr ⟨by omega, rfl, hE, hI⟩)
end Go.Proofs.Ytdhpghciegiikaa
