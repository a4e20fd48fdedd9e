/- The document's own unpacking (careenref01), and both unpackings told by one word: is the text a slab's sector? -/
import Derived.Test.YtdhpghciegiikaaSlabE
namespace Go.Proofs.Ytdhpghciegiikaa
open Go.RowKit

theorem num4_take (l : List UInt8) : num4 (l.take 4) = num4 l := by
  unfold num4
  simp [List.getD_eq_getElem?_getD]

set_option maxRecDepth 100000 in
set_option maxHeartbeats 2000000 in
theorem refUnpack_size (s : ByteArray) (w : World) (h : s.size ≠ 128) :
    Calls Try.prog 15 #[.string s] w fun e w' => e = .returned (.tuple #[noSlab, .bool false]) ∧ Below w.heap.size w w' := by
  have h1 : ((s.size : Int) != 128) = true := by simp; omega
  go_enter Try.func15, Try.ntmps15
  go_wp2
  exact bodyPost_ret (results_row_tmp rfl _ _ w.heap.size 24 _ _ rfl (Blk.new _ _ _) Try.underlying24 rfl (by kernel_rfl)) rfl ⟨rfl, (Below.refl _ _).alloc (Nat.le_refl _) _⟩

set_option maxRecDepth 100000 in
set_option maxHeartbeats 2000000 in
theorem refUnpack_eight (s : ByteArray) (w : World) (h : Hid (s.size = 128)) (h8 : 8 < s.size) (hz : ((s[8].toNat : Int) != 0) = true) :
    Calls Try.prog 15 #[.string s] w fun e w' => e = .returned (.tuple #[noSlab, .bool false]) ∧ Below w.heap.size w w' := by
  have h1 : ((s.size : Int) != 128) = false := by simp [h.out]
  have i8 : (8 : Int) < s.size := by omega
  go_enter Try.func15, Try.ntmps15
  go_wp2
  exact bodyPost_ret (results_row_tmp rfl _ _ w.heap.size 24 _ _ rfl (Blk.new _ _ _) Try.underlying24 rfl (by kernel_rfl)) rfl ⟨rfl, (Below.refl _ _).alloc (Nat.le_refl _) _⟩

set_option maxRecDepth 100000 in
set_option maxHeartbeats 2000000 in
theorem refUnpack_nine (s : ByteArray) (w : World) (h : Hid (s.size = 128)) (h8 : 8 < s.size) (h9 : 9 < s.size) (hz : ((s[8].toNat : Int) != 0) = false) (hn : (112 : Int) < s[9].toNat) :
    Calls Try.prog 15 #[.string s] w fun e w' => e = .returned (.tuple #[noSlab, .bool false]) ∧ Below w.heap.size w w' := by
  have h1 : ((s.size : Int) != 128) = false := by simp [h.out]
  have i8 : (8 : Int) < s.size := by omega
  have i9 : (9 : Int) < s.size := by omega
  go_enter Try.func15, Try.ntmps15
  go_wp2
  exact bodyPost_ret (results_row_tmp rfl _ _ w.heap.size 24 _ _ rfl (Blk.new _ _ _) Try.underlying24 rfl (by kernel_rfl)) rfl ⟨rfl, (Below.refl _ _).alloc (Nat.le_refl _) _⟩

set_option maxRecDepth 100000 in
set_option maxHeartbeats 4000000 in
theorem refUnpack_rest (s : ByteArray) (w : World) (h : Hid (s.size = 128)) (h8 : 8 < s.size) (h9 : 9 < s.size) (hz : ((s[8].toNat : Int) != 0) = false) (n : Nat) (hn : Hid (n = s[9].toNat)) (hle : n ≤ 112) (yes : Bool)
    (hyes : (sect (partE s) (partI s) (s.extract 12 (12 + n)) = s.data.toList) ↔ yes = true) :
    Calls Try.prog 15 #[.string s] w fun e w' => e = .returned (.tuple (if yes then #[slabV (partE s) (partI s) (s.extract 12 (12 + n)), .bool true] else #[noSlab, .bool false])) ∧ Below w.heap.size w w' := by
  have h1 : ((s.size : Int) != 128) = false := by simp [h.out]
  have i8 : (8 : Int) < s.size := by omega
  have i9 : (9 : Int) < s.size := by omega
  have hsz : 128 ≤ s.size := by rw [h.out]; omega
  have hv : (s[9].toNat : Int) = n := by rw [hn.out]
  go_enter Try.func15, Try.ntmps15
  go_wp2
  have hsl := slice_str (P := Try.prog) 9 Try.underlying9 s 12 (12 + n) .i64 .i64 12 (12 + (n : Int)) (by omega) (by omega) (by omega) (by omega)
  have hsl4 := slice_str (P := Try.prog) 9 Try.underlying9 s 4 8 .i64 .i64 4 8 rfl rfl (by omega) (by omega)
  have hx0 : 4 ≤ (s.extract 0 4).size := by rw [ByteArray.size_extract]; omega
  have hx4 : 4 ≤ (s.extract 4 8).size := by rw [ByteArray.size_extract]; omega
  have hr0 := (Blk.new w 24 #[.int .u32 0, .int .u32 0, .string ⟨#[]⟩])
  have hB0 := ((Below.refl w.heap.size w).alloc (Nat.le_refl _) (.cells #[.int .u32 0, .int .u32 0, .string ⟨#[]⟩] 24))
  generalize hg : w.heap.size = g at *
  have hG := Lib.hid hg
  clear hg
  generalize (w.alloc (.cells #[.int .u32 0, .int .u32 0, .string ⟨#[]⟩] 24)) = w1 at *
  refine' wp_region_conf 14 [.is _, .is _, .is _, .is _, .is _, .is _, .is _, .is _, .is _, .is _, .is _, .is _, .is _, .ptr w1.heap.size 24 #[.int .u32 0, .int .u32 0, .string ⟨#[]⟩]] (by kernel_rfl) (by kernel_rfl) (by kernel_rfl) (by kernel_rfl) rfl ?main
  case main =>
    iterate 2
      refine obs_is (fun w2 hE2 _ => ?_) ?_
      · go_wp2
        exact post_is (Below.refl _ _)
      simp only [Act.put, List.setIfInBounds_toArray, List.set_cons_zero, List.set_cons_succ]
    refine obs_is (fun w2 hE2 _ => ?_) ?_
    · go_wp2_with fail
      refine (number_any (s.extract 0 4) _ hx0).mono ?_
      rintro e w3 ⟨rfl, hb3⟩
      go_wp2
      exact post_is hb3
    simp only [Act.put, List.setIfInBounds_toArray, List.set_cons_zero, List.set_cons_succ]
    iterate 2
      refine obs_is (fun w2 hE2 _ => ?_) ?_
      · go_wp2
        exact post_is (Below.refl _ _)
      simp only [Act.put, List.setIfInBounds_toArray, List.set_cons_zero, List.set_cons_succ]
    refine obs_is (fun w2 hE2 _ => ?_) ?_
    · go_wp2_with fail
      refine (number_any (s.extract 4 8) _ hx4).mono ?_
      rintro e w3 ⟨rfl, hb3⟩
      go_wp2
      exact post_is hb3
    simp only [Act.put, List.setIfInBounds_toArray, List.set_cons_zero, List.set_cons_succ]
    iterate 7
      refine obs_is (fun w2 hE2 _ => ?_) ?_
      · go_wp2
        exact post_is (Below.refl _ _)
      simp only [Act.put, List.setIfInBounds_toArray, List.set_cons_zero, List.set_cons_succ]
    refine obs_ptr (fun w2 hE2 _ => ?_) (fun x => ?_)
    · go_wp2
      exact ⟨_, rfl, ⟨w2.heap.size, hE2.size, rfl, Blk.new _ _ _⟩, (Below.refl _ _).alloc (Nat.le_refl _) _⟩
    simp only [Act.put, List.setIfInBounds_toArray, List.set_cons_zero, List.set_cons_succ]
    refine obs_end fun w3 hE3 hk => ?_
    obtain ⟨g2, hg2, rfl, hb2⟩ := hk _ (List.mem_cons_self)
    clear hk
    have hB3 : Below w.heap.size w w3 := by rw [hG.out]; exact hB0.drew.trans (hE3.mono (show g ≤ w1.heap.size by rw [← hG.out]; exact hB0.size))
    have hr3 := hr0.drew.keep hE3 hr0.lt
    have hne : g ≠ g2 := by
      have := hr0.lt
      omega
    rw [num4_take, num4_take]
    refine wpList_store_row rfl 24 _ _ rfl g2 (#[.int .u32 (num4 s.data.toList : Nat), .int .u32 (num4 (s.data.toList.drop 4) : Nat), .string (s.extract 12 (12 + n))]) rfl rfl 24 _ hb2 (by kernel_rfl) (by simp) (by simp [Value.oneCell']) ?_
    replace hb2 := hb2.setRow #[.int .u32 (num4 s.data.toList : Nat), .int .u32 (num4 (s.data.toList.drop 4) : Nat), .string (s.extract 12 (12 + n))]
    replace hr3 := hr3.farRow hne #[.int .u32 (num4 s.data.toList : Nat), .int .u32 (num4 (s.data.toList.drop 4) : Nat), .string (s.extract 12 (12 + n))]
    replace hB3 := below_setRow hB3 (g := g2) (by rw [hG.out]; have := hB0.size; rw [hG.out] at this; omega) #[.int .u32 (num4 s.data.toList : Nat), .int .u32 (num4 (s.data.toList.drop 4) : Nat), .string (s.extract 12 (12 + n))]
    simp only [Act.put]
    generalize w3.setRow g2 _ = w4 at *
    have c0 := hb2.cellAt (i := 0) (by simp)
    have c1 := hb2.cellAt (i := 1) (by simp)
    have c2 := hb2.cellAt (i := 2) (by simp)
    simp at c0 c1 c2
    go_wp2_with fail
    refine (refPack_any _ _ _ _ (num4_lt _) (num4_lt _) (by rw [ByteArray.size_extract]; omega)).mono ?_
    rintro e w5 ⟨rfl, hb5⟩
    have htest : (sect (num4 s.data.toList) (num4 (List.drop 4 s.data.toList)) (s.extract 12 (12 + n)) == s.toList) = yes := by
      rw [Bool.eq_iff_iff, beq_iff_eq, ByteArray.toList_eq]
      exact hyes
    have hr5 := hr3.keep hb5 hr3.lt
    have hx5 := hb2.keep hb5 hb2.lt
    have hB5 := below2 hB3 hb5
    clear c0 c1 c2 hyes
    cases yes
    · go_wp2_with (refine wpList_store_row rfl 24 _ _ rfl g _ rfl rfl 24 _ hr5 (by kernel_rfl) (by simp) (by simp [Value.oneCell']) ?_)
      refine bodyPost_ret (results_row_tmp rfl _ _ g 24 _ _ rfl (hr5.setRow _) Try.underlying24 rfl (by kernel_rfl)) rfl ⟨rfl, below_setRow hB5 (by rw [hG.out]; omega) _⟩
    · go_wp2_with (first
        | (refine wpList_load_row rfl 24 _ rfl g2 rfl 24 _ (0, 0) _ hx5 Try.underlying24 rfl (by kernel_rfl) ?_)
        | (refine wpList_store_row rfl 24 _ _ rfl g _ rfl rfl 24 _ hr5 (by kernel_rfl) (by simp) (by simp [Value.oneCell']) ?_))
      refine bodyPost_ret (results_row_tmp rfl _ _ g 24 _ _ rfl (hr5.setRow _) Try.underlying24 rfl (by kernel_rfl)) rfl ⟨rfl, below_setRow hB5 (by rw [hG.out]; omega) _⟩

theorem getD_nat (s : ByteArray) (i : Nat) (h : i < s.size) : (s.data.toList.getD i 0).toNat = s[i].toNat := by rw [getD_at s i h]
/-- A slab's sector is unpacked to its parts; any other text to none: the program's answer and the document's. -/
theorem unpack_yes (s : ByteArray) (w : World) (h : IsSlab s) :
    Calls Try.prog 13 #[.string s] w fun e w' => e = .returned (.tuple #[slabV (partE s) (partI s) (partB s), .int .i64 0]) ∧ Below w.heap.size w w' := by
  obtain ⟨hz, h0, hn, hs⟩ := h
  have h8 : s[8]'(by omega) = 0 := by rw [← getD_at s 8 (by omega)]; exact h0
  have hn' : partN s = (s[9]'(by omega)).toNat := getD_nat s 9 (by omega)
  exact unpack_rest s w hz (by omega) (by omega) (partN s) (show _ = _ by rw [hn', h8]; simp) hn true (by simpa [partB] using hs)
theorem unpack_no (s : ByteArray) (w : World) (h : ¬ IsSlab s) :
    Calls Try.prog 13 #[.string s] w fun e w' => e = .returned (.tuple #[noSlab, .int .i64 8]) ∧ Below w.heap.size w w' := by
  by_cases hz : s.size = 128
  · by_cases hc : 112 < (s[8]'(by omega)).toNat * 256 + (s[9]'(by omega)).toNat
    · exact unpack_len s w hz (by omega) (by omega) hc
    · have h8 : (s[8]'(by omega)).toNat = 0 := by omega
      have hn' : partN s = (s[9]'(by omega)).toNat := getD_nat s 9 (by omega)
      have h0 : s.data.toList.getD 8 0 = 0 := by
        rw [getD_at s 8 (by omega)]
        exact UInt8.toNat_inj.1 h8
      exact unpack_rest s w hz (by omega) (by omega) (partN s) (show _ = _ by rw [hn', h8]; simp) (by omega) false
        (by constructor
            · intro hs; exact absurd ⟨hz, h0, by omega, hs⟩ h
            · intro hf; cases hf)
  · exact unpack_size s w hz
theorem refUnpack_yes (s : ByteArray) (w : World) (h : IsSlab s) :
    Calls Try.prog 15 #[.string s] w fun e w' => e = .returned (.tuple #[slabV (partE s) (partI s) (partB s), .bool true]) ∧ Below w.heap.size w w' := by
  obtain ⟨hz, h0, hn, hs⟩ := h
  have h8 : s[8]'(by omega) = 0 := by rw [← getD_at s 8 (by omega)]; exact h0
  have hn' : partN s = (s[9]'(by omega)).toNat := getD_nat s 9 (by omega)
  exact refUnpack_rest s w hz (by omega) (by omega) (by rw [h8]; rfl) (partN s) hn' hn true (by simpa [partB] using hs)
theorem refUnpack_no (s : ByteArray) (w : World) (h : ¬ IsSlab s) :
    Calls Try.prog 15 #[.string s] w fun e w' => e = .returned (.tuple #[noSlab, .bool false]) ∧ Below w.heap.size w w' := by
  by_cases hz : s.size = 128
  · by_cases h8 : (s[8]'(by omega)).toNat = 0
    · have hn' : partN s = (s[9]'(by omega)).toNat := getD_nat s 9 (by omega)
      have h0 : s.data.toList.getD 8 0 = 0 := by
        rw [getD_at s 8 (by omega)]
        exact UInt8.toNat_inj.1 h8
      by_cases hc : (112 : Int) < (s[9]'(by omega)).toNat
      · exact refUnpack_nine s w hz (by omega) (by omega) (by rw [h8]; rfl) hc
      · exact refUnpack_rest s w hz (by omega) (by omega) (by rw [h8]; rfl) (partN s) hn' (by omega) false
          (by constructor
              · intro hs; exact absurd ⟨hz, h0, by omega, hs⟩ h
              · intro hf; cases hf)
    · exact refUnpack_eight s w hz (by omega) (by simp; omega)
  · exact refUnpack_size s w hz
end Go.Proofs.Ytdhpghciegiikaa
