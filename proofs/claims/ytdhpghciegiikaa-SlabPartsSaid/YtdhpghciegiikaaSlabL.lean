/- Layer 1's statements: the walk of SlabParts. -/
import Derived.Test.YtdhpghciegiikaaSlabK
namespace Go.Proofs.Ytdhpghciegiikaa
open Go.RowKit

section
variable (E I : Nat) (b : ByteArray) (w : World)
set_option maxRecDepth 100000 in
set_option maxHeartbeats 4000000 in
theorem slabParts_long (hl : 112 < b.size) (hm : b.size ≤ maxLen) :
    Calls Try.prog 7 #[.agg #[.int .u32 E, .int .u32 I, .string b]] w fun e w' => e = .returned (.bool true) ∧ Below w.heap.size w w' := by
  go_enter Try.func7, Try.ntmps7
  go_wp2_with fail
  refine (pack_long E I b _ hl hm).mono ?_
  rintro e w1 ⟨rfl, hb1⟩
  have hB : Below w.heap.size w w1 := ((Below.refl _ _).alloc (Nat.le_refl _) _).trans (hb1.mono (by simp))
  go_wp2_with fail
  refine (awake_any _).mono ?_
  rintro e w2 ⟨rfl, hb2⟩
  go_wp2_with fail
  refine (awake_any _).mono ?_
  rintro e w3 ⟨rfl, hb3⟩
  go_wp2
  go_ret
  exact ⟨rfl, below2 (below2 hB hb2) hb3⟩

theorem getD_toNat (s : ByteArray) (i : Nat) (h : i < s.size) : s[i].toNat = (s.data.toList.getD i 0).toNat := by rw [getD_at s i h]

set_option maxRecDepth 100000 in
set_option maxHeartbeats 40000000 in
theorem slabParts_rest (hE : E < 4294967296) (hI : I < 4294967296) (hl : b.size ≤ 112) :
    Calls Try.prog 7 #[.agg #[.int .u32 E, .int .u32 I, .string b]] w fun e w' => e = .returned (.bool true) ∧ Below w.heap.size w w' := by
  have hps := packed_size (E := E) (I := I) hl
  have his := isSlab_packed hE hI hl
  have hpE := partE_packed (I := I) hE hl
  have hpI := partI_packed (E := E) hI hl
  have hpN := partN_packed (E := E) (I := I) hl
  have hpB := partB_packed (E := E) (I := I) hl
  go_enter Try.func7, Try.ntmps7
  go_wp2_with fail
  refine (pack_c E I b _ hE hI hl).mono ?_
  rintro e w1 ⟨rfl, hb1⟩
  have hx := (Blk.new w 24 #[.int .u32 E, .int .u32 I, .string b]).keep hb1 (by simp)
  have hB : Below w.heap.size w w1 := ((Below.refl _ _).alloc (Nat.le_refl _) _).trans (hb1.mono (by simp))
  clear hb1
  generalize packed E I b = s at *
  have hsz : 128 ≤ s.size := by omega
  have i8 : (8 : Int) < s.size := by omega
  have i9 : (9 : Int) < s.size := by omega
  have hn8 : 8 < s.size := by omega
  have hn9 : 9 < s.size := by omega
  have h8 : ((s[8]'hn8).toNat : Int) = 0 := by rw [getD_toNat s 8 hn8, his.2.1]; rfl
  have h9 : ((s[9]'hn9).toNat : Int) = b.size := by rw [getD_toNat s 9 hn9]; exact congrArg Int.ofNat hpN
  have hpB' : s.extract 12 (12 + b.size) = b := by
    unfold partB at hpB
    rw [hpN] at hpB
    exact hpB
  have hpE' : num4 (List.take 4 s.data.toList) = E := by rw [num4_take]; exact hpE
  have hpI' : num4 (List.take 4 (List.drop 4 s.data.toList)) = I := by rw [num4_take]; exact hpI
  have hlast : s.extract 124 s.size = ⟨(le4 (Crc.sum (List.take 124 s.data.toList))).toArray⟩ := by
    apply str_ext
    rw [Lib.extract_data, ← isSlab_sum his, List.take_of_length_le (by simp)]
  have hc := Crc.sum_lt (List.take 124 s.data.toList)
  have hsl4 := slice_str (P := Try.prog) 9 Try.underlying9 s 4 8 .i64 .i64 4 8 rfl rfl (by omega) (by omega)
  have hsl12 := slice_str (P := Try.prog) 9 Try.underlying9 s 12 (12 + b.size) .i64 .i64 12 (12 + (b.size : Int)) (by omega) (by omega) (by omega) (by omega)
  rw [hpB'] at hsl12
  have hx124 : (s.extract 0 124).size ≤ maxLen := by rw [ByteArray.size_extract]; unfold maxLen; omega
  have hx0 : 4 ≤ (s.extract 0 4).size := by rw [ByteArray.size_extract]; omega
  have hx4 : 4 ≤ (s.extract 4 8).size := by rw [ByteArray.size_extract]; omega
  clear hps his hpE hpI hpN hpB hpB'
  go_wp2_with fail
  refine (awake_any _).mono ?_
  rintro e w2 ⟨rfl, hb2⟩
  replace hB := below2 hB hb2
  replace hx := hx.keep hb2 hx.lt
  clear hb2
  go_wp2_with fail
  refine (sum_any (s.extract 0 124) _ hx124).mono ?_
  rintro e w3 ⟨rfl, hb3⟩
  replace hB := below2 hB hb3
  replace hx := hx.keep hb3 hx.lt
  clear hb3
  rw [show (s.extract 0 124).data.toList = List.take 124 s.data.toList from by rw [Lib.extract_data]; simp]
  generalize Crc.sum (List.take 124 s.data.toList) = c at *
  have e74 : Hid (#[Value.int .u8 ((c : Int) % 256), .int .u8 ((c : Int) / 256 % 256), .int .u8 ((c : Int) / 65536 % 256), .int .u8 ((c : Int) / 16777216)] = bytesV (le4 c)) := by
    show _ = _
    simp [bytesV, le4]
    omega
  go_wp2_with fail
  refine' wp_region_conf 58 (.is _ :: .is _ :: .is _ :: .is _ :: .is _ :: .is _ :: .is _ :: .is _ :: .is _ :: .is _ :: .is _ :: .is _ :: .is _ :: .is _ :: .is _ :: .is _ :: .is _ :: .is _ :: .is _ :: .is _ :: .is _ :: .is _ :: .is _ :: .is _ :: .is _ :: .is _ :: .is _ :: .is _ :: .is _ :: .is _ :: .is _ :: .is _ :: .is _ :: .is _ :: .is _ :: .is _ :: .is _ :: .is _ :: .is _ :: .is _ :: .is _ :: .is _ :: .is _ :: .is _ :: .is _ :: .is _ :: .is _ :: .is _ :: .is _ :: .is _ :: .is _ :: .is _ :: .is _ :: .slice w3.heap.size 4 5 (bytesV (le4 c)) :: .is _ :: .is _ :: .is _ :: .is _ :: []) (by kernel_rfl) (by kernel_rfl) (by kernel_rfl) (by kernel_rfl) rfl ?main
  case main =>
    have bx : ∀ W, Below w3.drew.heap.size w3.drew W → Blk W w.heap.size 24 #[.int .u32 E, .int .u32 I, .string b] := fun W h => hx.drew.keep h hx.lt
    apply obs_step
    · rfl
    · intro w4 hE4 hk
      clear hE4 hk
      go_wp2
      refine post_eq ?_ (Below.refl _ _)
      simp only [Act.put, List.setIfInBounds_toArray, List.set_cons_zero, List.set_cons_succ]
      rfl
    · simp only [Act.put, List.setIfInBounds_toArray, List.set_cons_zero, List.set_cons_succ]
      rfl
    apply obs_step
    · rfl
    · intro w4 hE4 hk
      clear hE4 hk
      go_wp2
      refine post_eq ?_ (Below.refl _ _)
      simp only [Act.put, List.setIfInBounds_toArray, List.set_cons_zero, List.set_cons_succ]
      rfl
    · simp only [Act.put, List.setIfInBounds_toArray, List.set_cons_zero, List.set_cons_succ]
      rfl
    apply obs_step
    · rfl
    · intro w4 hE4 hk
      clear hk
      go_wp2_with fail
      refine (number_any (s.extract 0 4) _ hx0).mono ?_
      rintro e w5 ⟨rfl, hb5⟩
      go_wp2
      refine post_eq ?_ hb5
      simp only [Act.put, List.setIfInBounds_toArray, List.set_cons_zero, List.set_cons_succ]
      rfl
    · simp only [Act.put, List.setIfInBounds_toArray, List.set_cons_zero, List.set_cons_succ]
      rfl
    apply obs_step
    · rfl
    · intro w4 hE4 hk
      clear hE4 hk
      go_wp2
      refine post_eq ?_ (Below.refl _ _)
      simp only [Act.put, List.setIfInBounds_toArray, List.set_cons_zero, List.set_cons_succ]
      rfl
    · simp only [Act.put, List.setIfInBounds_toArray, List.set_cons_zero, List.set_cons_succ]
      rfl
    apply obs_step
    · rfl
    · intro w4 hE4 hk
      have c0 := (bx w4 hE4).cellAt (i := 0) (by simp)
      simp at c0
      clear hE4 hk
      go_wp2
      refine post_eq ?_ (Below.refl _ _)
      simp only [Act.put, List.setIfInBounds_toArray, List.set_cons_zero, List.set_cons_succ]
      rfl
    · simp only [Act.put, List.setIfInBounds_toArray, List.set_cons_zero, List.set_cons_succ]
      rfl
    apply obs_step
    · rfl
    · intro w4 hE4 hk
      clear hE4 hk
      go_wp2
      refine post_eq ?_ (Below.refl _ _)
      simp only [Act.put, List.setIfInBounds_toArray, List.set_cons_zero, List.set_cons_succ]
      rfl
    · simp only [Act.put, List.setIfInBounds_toArray, List.set_cons_zero, List.set_cons_succ]
      rfl
    apply obs_step
    · rfl
    · intro w4 hE4 hk
      clear hE4 hk
      go_wp2
      refine post_eq ?_ (Below.refl _ _)
      simp only [Act.put, List.setIfInBounds_toArray, List.set_cons_zero, List.set_cons_succ]
      rfl
    · simp only [Act.put, List.setIfInBounds_toArray, List.set_cons_zero, List.set_cons_succ]
      rfl
    apply obs_step
    · rfl
    · intro w4 hE4 hk
      clear hE4 hk
      go_wp2
      refine post_eq ?_ (Below.refl _ _)
      simp only [Act.put, List.setIfInBounds_toArray, List.set_cons_zero, List.set_cons_succ]
      rfl
    · simp only [Act.put, List.setIfInBounds_toArray, List.set_cons_zero, List.set_cons_succ]
      rfl
    apply obs_step
    · rfl
    · intro w4 hE4 hk
      clear hE4 hk
      go_wp2
      refine post_eq ?_ (Below.refl _ _)
      simp only [Act.put, List.setIfInBounds_toArray, List.set_cons_zero, List.set_cons_succ]
      rfl
    · simp only [Act.put, List.setIfInBounds_toArray, List.set_cons_zero, List.set_cons_succ]
      rfl
    apply obs_step
    · rfl
    · intro w4 hE4 hk
      clear hk
      go_wp2_with fail
      refine (number_any (s.extract 4 8) _ hx4).mono ?_
      rintro e w5 ⟨rfl, hb5⟩
      go_wp2
      refine post_eq ?_ hb5
      simp only [Act.put, List.setIfInBounds_toArray, List.set_cons_zero, List.set_cons_succ]
      rfl
    · simp only [Act.put, List.setIfInBounds_toArray, List.set_cons_zero, List.set_cons_succ]
      rfl
    apply obs_step
    · rfl
    · intro w4 hE4 hk
      clear hE4 hk
      go_wp2
      refine post_eq ?_ (Below.refl _ _)
      simp only [Act.put, List.setIfInBounds_toArray, List.set_cons_zero, List.set_cons_succ]
      rfl
    · simp only [Act.put, List.setIfInBounds_toArray, List.set_cons_zero, List.set_cons_succ]
      rfl
    apply obs_step
    · rfl
    · intro w4 hE4 hk
      have c1 := (bx w4 hE4).cellAt (i := 1) (by simp)
      simp at c1
      clear hE4 hk
      go_wp2
      refine post_eq ?_ (Below.refl _ _)
      simp only [Act.put, List.setIfInBounds_toArray, List.set_cons_zero, List.set_cons_succ]
      rfl
    · simp only [Act.put, List.setIfInBounds_toArray, List.set_cons_zero, List.set_cons_succ]
      rfl
    apply obs_step
    · rfl
    · intro w4 hE4 hk
      clear hE4 hk
      go_wp2
      refine post_eq ?_ (Below.refl _ _)
      simp only [Act.put, List.setIfInBounds_toArray, List.set_cons_zero, List.set_cons_succ]
      rfl
    · simp only [Act.put, List.setIfInBounds_toArray, List.set_cons_zero, List.set_cons_succ]
      rfl
    apply obs_step
    · rfl
    · intro w4 hE4 hk
      clear hE4 hk
      go_wp2
      refine post_eq ?_ (Below.refl _ _)
      simp only [Act.put, List.setIfInBounds_toArray, List.set_cons_zero, List.set_cons_succ]
      rfl
    · simp only [Act.put, List.setIfInBounds_toArray, List.set_cons_zero, List.set_cons_succ]
      rfl
    apply obs_step
    · rfl
    · intro w4 hE4 hk
      clear hE4 hk
      go_wp2
      refine post_eq ?_ (Below.refl _ _)
      simp only [Act.put, List.setIfInBounds_toArray, List.set_cons_zero, List.set_cons_succ]
      rfl
    · simp only [Act.put, List.setIfInBounds_toArray, List.set_cons_zero, List.set_cons_succ]
      rfl
    apply obs_step
    · rfl
    · intro w4 hE4 hk
      clear hE4 hk
      go_wp2
      refine post_eq ?_ (Below.refl _ _)
      simp only [Act.put, List.setIfInBounds_toArray, List.set_cons_zero, List.set_cons_succ]
      rfl
    · simp only [Act.put, List.setIfInBounds_toArray, List.set_cons_zero, List.set_cons_succ]
      rfl
    apply obs_step
    · rfl
    · intro w4 hE4 hk
      clear hE4 hk
      go_wp2
      refine post_eq ?_ (Below.refl _ _)
      simp only [Act.put, List.setIfInBounds_toArray, List.set_cons_zero, List.set_cons_succ]
      rfl
    · simp only [Act.put, List.setIfInBounds_toArray, List.set_cons_zero, List.set_cons_succ]
      rfl
    apply obs_step
    · rfl
    · intro w4 hE4 hk
      clear hE4 hk
      go_wp2
      refine post_eq ?_ (Below.refl _ _)
      simp only [Act.put, List.setIfInBounds_toArray, List.set_cons_zero, List.set_cons_succ]
      rfl
    · simp only [Act.put, List.setIfInBounds_toArray, List.set_cons_zero, List.set_cons_succ]
      rfl
    apply obs_step
    · rfl
    · intro w4 hE4 hk
      clear hE4 hk
      go_wp2
      refine post_eq ?_ (Below.refl _ _)
      simp only [Act.put, List.setIfInBounds_toArray, List.set_cons_zero, List.set_cons_succ]
      rfl
    · simp only [Act.put, List.setIfInBounds_toArray, List.set_cons_zero, List.set_cons_succ]
      rfl
    apply obs_step
    · rfl
    · intro w4 hE4 hk
      clear hE4 hk
      go_wp2
      refine post_eq ?_ (Below.refl _ _)
      simp only [Act.put, List.setIfInBounds_toArray, List.set_cons_zero, List.set_cons_succ]
      rfl
    · simp only [Act.put, List.setIfInBounds_toArray, List.set_cons_zero, List.set_cons_succ]
      rfl
    apply obs_step
    · rfl
    · intro w4 hE4 hk
      clear hE4 hk
      go_wp2
      refine post_eq ?_ (Below.refl _ _)
      simp only [Act.put, List.setIfInBounds_toArray, List.set_cons_zero, List.set_cons_succ]
      rfl
    · simp only [Act.put, List.setIfInBounds_toArray, List.set_cons_zero, List.set_cons_succ]
      rfl
    apply obs_step
    · rfl
    · intro w4 hE4 hk
      clear hE4 hk
      go_wp2
      refine post_eq ?_ (Below.refl _ _)
      simp only [Act.put, List.setIfInBounds_toArray, List.set_cons_zero, List.set_cons_succ]
      rfl
    · simp only [Act.put, List.setIfInBounds_toArray, List.set_cons_zero, List.set_cons_succ]
      rfl
    apply obs_step
    · rfl
    · intro w4 hE4 hk
      clear hE4 hk
      go_wp2
      refine post_eq ?_ (Below.refl _ _)
      simp only [Act.put, List.setIfInBounds_toArray, List.set_cons_zero, List.set_cons_succ]
      rfl
    · simp only [Act.put, List.setIfInBounds_toArray, List.set_cons_zero, List.set_cons_succ]
      rfl
    apply obs_step
    · rfl
    · intro w4 hE4 hk
      clear hE4 hk
      go_wp2
      refine post_eq ?_ (Below.refl _ _)
      simp only [Act.put, List.setIfInBounds_toArray, List.set_cons_zero, List.set_cons_succ]
      rfl
    · simp only [Act.put, List.setIfInBounds_toArray, List.set_cons_zero, List.set_cons_succ]
      rfl
    apply obs_step
    · rfl
    · intro w4 hE4 hk
      have c2 := (bx w4 hE4).cellAt (i := 2) (by simp)
      simp at c2
      clear hE4 hk
      go_wp2
      refine post_eq ?_ (Below.refl _ _)
      simp only [Act.put, List.setIfInBounds_toArray, List.set_cons_zero, List.set_cons_succ]
      rfl
    · simp only [Act.put, List.setIfInBounds_toArray, List.set_cons_zero, List.set_cons_succ]
      rfl
    apply obs_step
    · rfl
    · intro w4 hE4 hk
      clear hE4 hk
      go_wp2
      refine post_eq ?_ (Below.refl _ _)
      simp only [Act.put, List.setIfInBounds_toArray, List.set_cons_zero, List.set_cons_succ]
      rfl
    · simp only [Act.put, List.setIfInBounds_toArray, List.set_cons_zero, List.set_cons_succ]
      rfl
    apply obs_step
    · rfl
    · intro w4 hE4 hk
      clear hE4 hk
      go_wp2
      refine post_eq ?_ (Below.refl _ _)
      simp only [Act.put, List.setIfInBounds_toArray, List.set_cons_zero, List.set_cons_succ]
      rfl
    · simp only [Act.put, List.setIfInBounds_toArray, List.set_cons_zero, List.set_cons_succ]
      rfl
    apply obs_step
    · rfl
    · intro w4 hE4 hk
      clear hE4 hk
      go_wp2
      refine post_eq ?_ (Below.refl _ _)
      simp only [Act.put, List.setIfInBounds_toArray, List.set_cons_zero, List.set_cons_succ]
      rfl
    · simp only [Act.put, List.setIfInBounds_toArray, List.set_cons_zero, List.set_cons_succ]
      rfl
    apply obs_step
    · rfl
    · intro w4 hE4 hk
      clear hE4 hk
      go_wp2
      refine post_eq ?_ (Below.refl _ _)
      simp only [Act.put, List.setIfInBounds_toArray, List.set_cons_zero, List.set_cons_succ]
      rfl
    · simp only [Act.put, List.setIfInBounds_toArray, List.set_cons_zero, List.set_cons_succ]
      rfl
    apply obs_step
    · rfl
    · intro w4 hE4 hk
      clear hE4 hk
      go_wp2
      refine post_eq ?_ (Below.refl _ _)
      simp only [Act.put, List.setIfInBounds_toArray, List.set_cons_zero, List.set_cons_succ]
      rfl
    · simp only [Act.put, List.setIfInBounds_toArray, List.set_cons_zero, List.set_cons_succ]
      rfl
    apply obs_step
    · rfl
    · intro w4 hE4 hk
      clear hE4 hk
      go_wp2
      refine post_eq ?_ (Below.refl _ _)
      simp only [Act.put, List.setIfInBounds_toArray, List.set_cons_zero, List.set_cons_succ]
      rfl
    · simp only [Act.put, List.setIfInBounds_toArray, List.set_cons_zero, List.set_cons_succ]
      rfl
    apply obs_step
    · rfl
    · intro w4 hE4 hk
      have c2 := (bx w4 hE4).cellAt (i := 2) (by simp)
      simp at c2
      clear hE4 hk
      go_wp2
      refine post_eq ?_ (Below.refl _ _)
      simp only [Act.put, List.setIfInBounds_toArray, List.set_cons_zero, List.set_cons_succ]
      rfl
    · simp only [Act.put, List.setIfInBounds_toArray, List.set_cons_zero, List.set_cons_succ]
      rfl
    apply obs_step
    · rfl
    · intro w4 hE4 hk
      clear hE4 hk
      go_wp2
      refine post_eq ?_ (Below.refl _ _)
      simp only [Act.put, List.setIfInBounds_toArray, List.set_cons_zero, List.set_cons_succ]
      rfl
    · simp only [Act.put, List.setIfInBounds_toArray, List.set_cons_zero, List.set_cons_succ]
      rfl
    apply obs_step
    · rfl
    · intro w4 hE4 hk
      clear hE4 hk
      go_wp2
      refine post_eq ?_ (Below.refl _ _)
      simp only [Act.put, List.setIfInBounds_toArray, List.set_cons_zero, List.set_cons_succ]
      rfl
    · simp only [Act.put, List.setIfInBounds_toArray, List.set_cons_zero, List.set_cons_succ]
      rfl
    apply obs_step
    · rfl
    · intro w4 hE4 hk
      clear hE4 hk
      go_wp2
      refine post_eq ?_ (Below.refl _ _)
      simp only [Act.put, List.setIfInBounds_toArray, List.set_cons_zero, List.set_cons_succ]
      rfl
    · simp only [Act.put, List.setIfInBounds_toArray, List.set_cons_zero, List.set_cons_succ]
      rfl
    apply obs_step
    · rfl
    · intro w4 hE4 hk
      clear hE4 hk
      go_wp2
      refine post_eq ?_ (Below.refl _ _)
      simp only [Act.put, List.setIfInBounds_toArray, List.set_cons_zero, List.set_cons_succ]
      rfl
    · simp only [Act.put, List.setIfInBounds_toArray, List.set_cons_zero, List.set_cons_succ]
      rfl
    apply obs_step
    · rfl
    · intro w4 hE4 hk
      have c2 := (bx w4 hE4).cellAt (i := 2) (by simp)
      simp at c2
      clear hE4 hk
      go_wp2
      refine post_eq ?_ (Below.refl _ _)
      simp only [Act.put, List.setIfInBounds_toArray, List.set_cons_zero, List.set_cons_succ]
      rfl
    · simp only [Act.put, List.setIfInBounds_toArray, List.set_cons_zero, List.set_cons_succ]
      rfl
    apply obs_step
    · rfl
    · intro w4 hE4 hk
      clear hE4 hk
      go_wp2
      refine post_eq ?_ (Below.refl _ _)
      simp only [Act.put, List.setIfInBounds_toArray, List.set_cons_zero, List.set_cons_succ]
      rfl
    · simp only [Act.put, List.setIfInBounds_toArray, List.set_cons_zero, List.set_cons_succ]
      rfl
    apply obs_step
    · rfl
    · intro w4 hE4 hk
      clear hE4 hk
      go_wp2
      refine post_eq ?_ (Below.refl _ _)
      simp only [Act.put, List.setIfInBounds_toArray, List.set_cons_zero, List.set_cons_succ]
      rfl
    · simp only [Act.put, List.setIfInBounds_toArray, List.set_cons_zero, List.set_cons_succ]
      rfl
    apply obs_step
    · rfl
    · intro w4 hE4 hk
      clear hE4 hk
      go_wp2
      refine post_eq ?_ (Below.refl _ _)
      simp only [Act.put, List.setIfInBounds_toArray, List.set_cons_zero, List.set_cons_succ]
      rfl
    · simp only [Act.put, List.setIfInBounds_toArray, List.set_cons_zero, List.set_cons_succ]
      rfl
    apply obs_step
    · rfl
    · intro w4 hE4 hk
      clear hE4 hk
      go_wp2
      refine post_eq ?_ (Below.refl _ _)
      simp only [Act.put, List.setIfInBounds_toArray, List.set_cons_zero, List.set_cons_succ]
      rfl
    · simp only [Act.put, List.setIfInBounds_toArray, List.set_cons_zero, List.set_cons_succ]
      rfl
    apply obs_step
    · rfl
    · intro w4 hE4 hk
      clear hE4 hk
      go_wp2
      refine post_eq ?_ (Below.refl _ _)
      simp only [Act.put, List.setIfInBounds_toArray, List.set_cons_zero, List.set_cons_succ]
      rfl
    · simp only [Act.put, List.setIfInBounds_toArray, List.set_cons_zero, List.set_cons_succ]
      rfl
    apply obs_step
    · rfl
    · intro w4 hE4 hk
      clear hE4 hk
      go_wp2
      refine post_eq ?_ (Below.refl _ _)
      simp only [Act.put, List.setIfInBounds_toArray, List.set_cons_zero, List.set_cons_succ]
      rfl
    · simp only [Act.put, List.setIfInBounds_toArray, List.set_cons_zero, List.set_cons_succ]
      rfl
    apply obs_step
    · rfl
    · intro w4 hE4 hk
      clear hE4 hk
      go_wp2
      refine post_eq ?_ (Below.refl _ _)
      simp only [Act.put, List.setIfInBounds_toArray, List.set_cons_zero, List.set_cons_succ]
      rfl
    · simp only [Act.put, List.setIfInBounds_toArray, List.set_cons_zero, List.set_cons_succ]
      rfl
    apply obs_step
    · rfl
    · intro w4 hE4 hk
      clear hE4 hk
      go_wp2
      refine post_eq ?_ (Below.refl _ _)
      simp only [Act.put, List.setIfInBounds_toArray, List.set_cons_zero, List.set_cons_succ]
      rfl
    · simp only [Act.put, List.setIfInBounds_toArray, List.set_cons_zero, List.set_cons_succ]
      rfl
    apply obs_step
    · rfl
    · intro w4 hE4 hk
      clear hE4 hk
      go_wp2
      refine post_eq ?_ (Below.refl _ _)
      simp only [Act.put, List.setIfInBounds_toArray, List.set_cons_zero, List.set_cons_succ]
      rfl
    · simp only [Act.put, List.setIfInBounds_toArray, List.set_cons_zero, List.set_cons_succ]
      rfl
    apply obs_step
    · rfl
    · intro w4 hE4 hk
      clear hE4 hk
      go_wp2
      refine post_eq ?_ (Below.refl _ _)
      simp only [Act.put, List.setIfInBounds_toArray, List.set_cons_zero, List.set_cons_succ]
      rfl
    · simp only [Act.put, List.setIfInBounds_toArray, List.set_cons_zero, List.set_cons_succ]
      rfl
    apply obs_step
    · rfl
    · intro w4 hE4 hk
      clear hE4 hk
      go_wp2
      refine post_eq ?_ (Below.refl _ _)
      simp only [Act.put, List.setIfInBounds_toArray, List.set_cons_zero, List.set_cons_succ]
      rfl
    · simp only [Act.put, List.setIfInBounds_toArray, List.set_cons_zero, List.set_cons_succ]
      rfl
    apply obs_step
    · rfl
    · intro w4 hE4 hk
      clear hE4 hk
      go_wp2
      refine post_eq ?_ (Below.refl _ _)
      simp only [Act.put, List.setIfInBounds_toArray, List.set_cons_zero, List.set_cons_succ]
      rfl
    · simp only [Act.put, List.setIfInBounds_toArray, List.set_cons_zero, List.set_cons_succ]
      rfl
    apply obs_step
    · rfl
    · intro w4 hE4 hk
      clear hE4 hk
      go_wp2
      refine post_eq ?_ (Below.refl _ _)
      simp only [Act.put, List.setIfInBounds_toArray, List.set_cons_zero, List.set_cons_succ]
      rfl
    · simp only [Act.put, List.setIfInBounds_toArray, List.set_cons_zero, List.set_cons_succ]
      rfl
    apply obs_step
    · rfl
    · intro w4 hE4 hk
      clear hE4 hk
      go_wp2
      refine post_eq ?_ (Below.refl _ _)
      simp only [Act.put, List.setIfInBounds_toArray, List.set_cons_zero, List.set_cons_succ]
      rfl
    · simp only [Act.put, List.setIfInBounds_toArray, List.set_cons_zero, List.set_cons_succ]
      rfl
    apply obs_step
    · rfl
    · intro w4 hE4 hk
      clear hE4 hk
      go_wp2
      refine post_eq ?_ (Below.refl _ _)
      simp only [Act.put, List.setIfInBounds_toArray, List.set_cons_zero, List.set_cons_succ]
      rfl
    · simp only [Act.put, List.setIfInBounds_toArray, List.set_cons_zero, List.set_cons_succ]
      rfl
    apply obs_step
    · rfl
    · intro w4 hE4 hk
      clear hE4 hk
      go_wp2
      refine post_eq ?_ (Below.refl _ _)
      simp only [Act.put, List.setIfInBounds_toArray, List.set_cons_zero, List.set_cons_succ]
      rfl
    · simp only [Act.put, List.setIfInBounds_toArray, List.set_cons_zero, List.set_cons_succ]
      rfl
    apply obs_step_slice
    · rfl
    · intro w4 hE4 hk
      clear hk
      go_wp2
      refine ⟨_, ?_, ⟨w4.heap.size, hE4.size, rfl, by rw [← e74.out]; exact Blk.new _ _ _⟩, (Below.refl _ _).alloc (Nat.le_refl _) _⟩
      simp only [Act.put, List.setIfInBounds_toArray, List.set_cons_zero, List.set_cons_succ]
    · intro x
      simp only [Act.put, List.setIfInBounds_toArray, List.set_cons_zero, List.set_cons_succ]
      rfl
    intro x
    apply obs_step
    · rfl
    · intro w4 hE4 hk
      obtain ⟨g2, hg2, rfl, hb2⟩ := hk _ (List.mem_cons_self) (by kernel_rfl)
      have hcv := conv_blk hb2 0 4 4 (by simp [le4_len]) 37 5 9 Try.underlying37 Try.underlying5 Try.underlying9
      rw [show ((le4 c).drop 0).take 4 = le4 c from rfl] at hcv
      clear hk hE4
      go_wp2
      refine post_eq ?_ (Below.refl _ _)
      simp only [Act.put, List.setIfInBounds_toArray, List.set_cons_zero, List.set_cons_succ]
      rfl
    · simp only [Act.put, List.setIfInBounds_toArray, List.set_cons_zero, List.set_cons_succ]
      rfl
    apply obs_step
    · rfl
    · intro w4 hE4 hk
      clear hE4 hk
      go_wp2
      refine post_eq ?_ (Below.refl _ _)
      simp only [Act.put, List.setIfInBounds_toArray, List.set_cons_zero, List.set_cons_succ]
      rfl
    · simp only [Act.put, List.setIfInBounds_toArray, List.set_cons_zero, List.set_cons_succ]
      rfl
    apply obs_step
    · rfl
    · intro w4 hE4 hk
      clear hE4 hk
      go_wp2
      refine post_eq ?_ (Below.refl _ _)
      simp only [Act.put, List.setIfInBounds_toArray, List.set_cons_zero, List.set_cons_succ]
      rfl
    · simp only [Act.put, List.setIfInBounds_toArray, List.set_cons_zero, List.set_cons_succ]
      rfl
    apply obs_step
    · rfl
    · intro w4 hE4 hk
      clear hE4 hk
      go_wp2
      refine post_eq ?_ (Below.refl _ _)
      simp only [Act.put, List.setIfInBounds_toArray, List.set_cons_zero, List.set_cons_succ]
      rfl
    · simp only [Act.put, List.setIfInBounds_toArray, List.set_cons_zero, List.set_cons_succ]
      rfl
    refine obs_end fun w4 hE4 _ => ?_
    go_wp2
    go_ret
    exact ⟨rfl, hB.drew.trans (hE4.mono hB.size)⟩
end

theorem walkSlabParts (E I : Nat) (b : ByteArray) (w : World) (hE : E < 4294967296) (hI : I < 4294967296) (hb : b.size ≤ maxLen) :
    Calls Try.prog 7 #[.agg #[.int .u32 E, .int .u32 I, .string b]] w fun e w' => e = .returned (.bool true) ∧ Below w.heap.size w w' := by
  by_cases h : 112 < b.size
  · exact slabParts_long E I b w h hb
  · exact slabParts_rest E I b w hE hI (by omega)
end Go.Proofs.Ytdhpghciegiikaa
