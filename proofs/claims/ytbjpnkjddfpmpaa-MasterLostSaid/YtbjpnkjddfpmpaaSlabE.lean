/- Package slab, and the document's own answers: what a text is unpacked to. -/
import Derived.Test.YtbjpnkjddfpmpaaSlabDm
import Derived.Test.YtbjpnkjddfpmpaaClone
namespace Go.Proofs.Ytbjpnkjddfpmpaa
open Go.RowKit

theorem i64_or (a b : Nat) (ha : a < 256) (hb : b < 256) : bits .or .i64 ((a : Int) * 256) (b : Int) = ((a * 256 + b : Nat) : Int) := by
  have h := (bits_nat .i64 62 (by decide) (fun n h0 h1 => by rw [IntKind.wrap_i64]; omega) (a * 256) b (by omega) (by omega)).2
  rw [show (a : Int) * 256 = ((a * 256 : Nat) : Int) from by omega, h]
  congr 1
  have := Nat.shiftLeft_add_eq_or_of_lt (b := b) (i := 8) (by omega) a
  rw [Nat.shiftLeft_eq] at this
  exact this.symm

/-- What a text of 128 bytes holds, if it is a slab's sector. -/
def partE (s : ByteArray) : Nat := num4 s.data.toList
def partI (s : ByteArray) : Nat := num4 (s.data.toList.drop 4)
def partN (s : ByteArray) : Nat := (s.data.toList.getD 9 0).toNat
def partB (s : ByteArray) : ByteArray := s.extract 12 (12 + partN s)
/-- Is it one? -/
def IsSlab (s : ByteArray) : Prop := s.size = 128 ∧ s.data.toList.getD 8 0 = 0 ∧ partN s ≤ 112 ∧ sect (partE s) (partI s) (partB s) = s.data.toList
def slabV (E I : Nat) (b : ByteArray) : Value := .agg #[.int .u32 E, .int .u32 I, .string b]
def noSlab : Value := .agg #[.int .u32 0, .int .u32 0, .string ⟨#[]⟩]

theorem num4_lt (l : List UInt8) : num4 l < 4294967296 := by
  unfold num4
  have a := (l.getD 0 0).toNat_lt
  have b := (l.getD 1 0).toNat_lt
  have c := (l.getD 2 0).toNat_lt
  have d := (l.getD 3 0).toNat_lt
  omega

set_option maxRecDepth 100000 in
set_option maxHeartbeats 2000000 in
theorem unpack_size (s : ByteArray) (w : World) (h : s.size ≠ 128) :
    Calls Try.prog 35 #[.string s] w fun e w' => e = .returned (.tuple #[noSlab, .int .i64 8]) ∧ Below w.heap.size w w' := by
  have h1 : ((s.size : Int) != 128) = true := by simp; omega
  go_enter Try.func35, Try.ntmps35
  go_wp2
  exact bodyPost_ret (results_row_tmp rfl _ _ w.heap.size 65 _ _ rfl (Blk.new _ _ _) Try.underlying65 rfl (by kernel_rfl)) rfl ⟨rfl, (Below.refl _ _).alloc (Nat.le_refl _) _⟩

set_option maxRecDepth 100000 in
set_option maxHeartbeats 2000000 in
theorem unpack_len (s : ByteArray) (w : World) (h : Hid (s.size = 128)) (h8 : 8 < s.size) (h9 : 9 < s.size) (hn : 112 < s[8].toNat * 256 + s[9].toNat) :
    Calls Try.prog 35 #[.string s] w fun e w' => e = .returned (.tuple #[noSlab, .int .i64 8]) ∧ Below w.heap.size w w' := by
  have h1 : ((s.size : Int) != 128) = false := by simp [h.out]
  have i8 : (8 : Int) < s.size := by omega
  have i9 : (9 : Int) < s.size := by omega
  have b8 : (s[8].toNat : Int) < 256 := by have := s[8].toNat_lt; omega
  have b9 : (s[9].toNat : Int) < 256 := by have := s[9].toNat_lt; omega
  have ho := i64_or s[8].toNat s[9].toNat s[8].toNat_lt s[9].toNat_lt
  have hgt : (112 : Int) < ((s[8].toNat * 256 + s[9].toNat : Nat) : Int) := by omega
  generalize s[8].toNat * 256 + s[9].toNat = n at *
  go_enter Try.func35, Try.ntmps35
  go_wp2
  go_region
  all_goals
    go_wp2
    exact bodyPost_ret (results_row_tmp rfl _ _ w.heap.size 65 _ _ rfl (Blk.drew (Blk.new _ _ _)) Try.underlying65 rfl (by kernel_rfl)) rfl ⟨rfl, ((Below.refl _ _).alloc (Nat.le_refl _) _).drew⟩

set_option maxRecDepth 100000 in
set_option maxHeartbeats 4000000 in
theorem unpack_rest (s : ByteArray) (w : World) (h : Hid (s.size = 128)) (h8 : 8 < s.size) (h9 : 9 < s.size) (n : Nat) (hn : Hid (n = s[8].toNat * 256 + s[9].toNat)) (hle : n ≤ 112) (yes : Bool)
    (hyes : (sect (partE s) (partI s) (s.extract 12 (12 + n)) = s.data.toList) ↔ yes = true) :
    Calls Try.prog 35 #[.string s] w fun e w' => e = .returned (.tuple (if yes then #[slabV (partE s) (partI s) (s.extract 12 (12 + n)), .int .i64 0] else #[noSlab, .int .i64 8])) ∧ Below w.heap.size w w' := by
  have h1 : ((s.size : Int) != 128) = false := by simp [h.out]
  have i8 : (8 : Int) < s.size := by omega
  have i9 : (9 : Int) < s.size := by omega
  have b8 : (s[8].toNat : Int) < 256 := by have := s[8].toNat_lt; omega
  have b9 : (s[9].toNat : Int) < 256 := by have := s[9].toNat_lt; omega
  have ho := i64_or s[8].toNat s[9].toNat s[8].toNat_lt s[9].toNat_lt
  rw [← hn.out] at ho
  have hsz : 128 ≤ s.size := by rw [h.out]; omega
  go_enter Try.func35, Try.ntmps35
  go_wp2
  go_region
  go_wp2
  have hsl := slice_str (P := Try.prog) 9 Try.underlying9 s 12 (12 + n) .i64 .i64 12 (12 + (n : Int)) (by omega) (by omega) (by omega) (by omega)
  have hx4 : 4 ≤ (s.extract 4 s.size).size := by rw [ByteArray.size_extract]; omega
  have hx12 : (s.extract 12 (12 + n)).size ≤ 281474976710656 := by rw [ByteArray.size_extract]; omega
  have hr0 := Blk.drew (Blk.new w 65 #[.int .u32 0, .int .u32 0, .string ⟨#[]⟩])
  have hB0 := ((Below.refl w.heap.size w).alloc (Nat.le_refl _) (.cells #[.int .u32 0, .int .u32 0, .string ⟨#[]⟩] 65)).drew
  generalize hg : w.heap.size = g at *
  have hG := Lib.hid hg
  clear hg
  generalize (w.alloc (.cells #[.int .u32 0, .int .u32 0, .string ⟨#[]⟩] 65)).drew = w1 at *
  refine' wp_region_conf 13 [.is _, .is _, .is _, .is _, .is _, .is _, .is _, .is _, .is _, .is _, .is _, .is _, .ptr w1.heap.size 65 #[.int .u32 0, .int .u32 0, .string ⟨#[]⟩]] (by kernel_rfl) (by kernel_rfl) (by kernel_rfl) (by kernel_rfl) rfl ?main
  case main =>
    iterate 2
      refine obs_is (fun w2 hE2 _ => ?_) ?_
      · go_wp2
        exact post_is (Below.refl _ _)
      simp only [Act.put, List.setIfInBounds_toArray, List.set_cons_zero, List.set_cons_succ]
    refine obs_is (fun w2 hE2 _ => ?_) ?_
    · go_wp2_with fail
      refine (getHigh_any s _ (by omega)).mono ?_
      rintro e w3 ⟨rfl, hb3⟩
      go_wp2
      exact post_is hb3
    simp only [Act.put, List.setIfInBounds_toArray, List.set_cons_zero, List.set_cons_succ]
    iterate 2
      refine obs_is (fun w2 hE2 _ => ?_) ?_
      · go_wp2
        exact post_is (Below.refl _ _)
      simp only [Act.put, List.setIfInBounds_toArray, List.set_cons_zero, List.set_cons_succ]
    refine obs_is (fun w2 hE2 _ => ?_) ?_
    · go_wp2_with fail
      refine (getHigh_any (s.extract 4 s.size) _ hx4).mono ?_
      rintro e w3 ⟨rfl, hb3⟩
      go_wp2
      exact post_is hb3
    simp only [Act.put, List.setIfInBounds_toArray, List.set_cons_zero, List.set_cons_succ]
    iterate 4
      refine obs_is (fun w2 hE2 _ => ?_) ?_
      · go_wp2
        exact post_is (Below.refl _ _)
      simp only [Act.put, List.setIfInBounds_toArray, List.set_cons_zero, List.set_cons_succ]
    refine obs_is (fun w2 hE2 _ => ?_) ?_
    · go_wp2_with fail
      refine (cloneS_any (s.extract 12 (12 + n)) _ hx12).mono ?_
      rintro e w3 ⟨rfl, hb3⟩
      go_wp2
      exact post_is hb3
    simp only [Act.put, List.setIfInBounds_toArray, List.set_cons_zero, List.set_cons_succ]
    iterate 1
      refine obs_is (fun w2 hE2 _ => ?_) ?_
      · go_wp2
        exact post_is (Below.refl _ _)
      simp only [Act.put, List.setIfInBounds_toArray, List.set_cons_zero, List.set_cons_succ]
    refine obs_ptr (fun w2 hE2 _ => ?_) (fun x => ?_)
    · go_wp2
      exact ⟨_, rfl, ⟨w2.heap.size, hE2.size, rfl, Blk.new _ _ _⟩, (Below.refl _ _).alloc (Nat.le_refl _) _⟩
    simp only [Act.put, List.setIfInBounds_toArray, List.set_cons_zero, List.set_cons_succ]
    refine obs_end fun w3 hE3 hk => ?_
    obtain ⟨g2, hg2, rfl, hb2⟩ := hk _ (List.mem_cons_self)
    clear hk
    have hB3 : Below w.heap.size w w3 := by rw [hG.out]; exact hB0.drew.trans (hE3.mono (show g ≤ w1.heap.size by rw [← hG.out]; exact hB0.size))
    have hr3 := hr0.drew.keep hE3 hr0.lt
    have hne : g ≠ g2 := by
      have := hr0.lt
      omega
    rw [show List.take (s.size - 4) (List.drop 4 s.data.toList) = List.drop 4 s.data.toList from List.take_of_length_le (by simp)]
    refine wpList_store_row rfl 65 _ _ rfl g2 (#[.int .u32 (num4 s.data.toList : Nat), .int .u32 (num4 (s.data.toList.drop 4) : Nat), .string (s.extract 12 (12 + n))]) rfl rfl 65 _ hb2 (by kernel_rfl) (by simp) (by simp [Value.oneCell']) ?_
    replace hb2 := hb2.setRow #[.int .u32 (num4 s.data.toList : Nat), .int .u32 (num4 (s.data.toList.drop 4) : Nat), .string (s.extract 12 (12 + n))]
    replace hr3 := hr3.farRow hne #[.int .u32 (num4 s.data.toList : Nat), .int .u32 (num4 (s.data.toList.drop 4) : Nat), .string (s.extract 12 (12 + n))]
    replace hB3 := below_setRow hB3 (g := g2) (by rw [hG.out]; have := hB0.size; rw [hG.out] at this; omega) #[.int .u32 (num4 s.data.toList : Nat), .int .u32 (num4 (s.data.toList.drop 4) : Nat), .string (s.extract 12 (12 + n))]
    simp only [Act.put]
    generalize w3.setRow g2 _ = w4 at *
    have c0 := hb2.cellAt (i := 0) (by simp)
    have c1 := hb2.cellAt (i := 1) (by simp)
    have c2 := hb2.cellAt (i := 2) (by simp)
    simp at c0 c1 c2
    go_wp2_with fail
    refine (pack_any _ _ _ _ (num4_lt _) (num4_lt _) (by rw [ByteArray.size_extract]; omega)).mono ?_
    rintro e w5 ⟨rfl, hb5⟩
    have htest : (sect (num4 s.data.toList) (num4 (List.drop 4 s.data.toList)) (s.extract 12 (12 + n)) == s.toList) = yes := by
      rw [Bool.eq_iff_iff, beq_iff_eq, ByteArray.toList_eq]
      exact hyes
    have hr5 := hr3.keep hb5 hr3.lt
    have hx5 := hb2.keep hb5 hb2.lt
    have hB5 := below2 hB3 hb5
    clear c0 c1 c2 hyes
    cases yes
    · go_wp2_with (refine wpList_store_row rfl 65 _ _ rfl g _ rfl rfl 65 _ hr5 (by kernel_rfl) (by simp) (by simp [Value.oneCell']) ?_)
      refine bodyPost_ret (results_row_tmp rfl _ _ g 65 _ _ rfl (hr5.setRow _) Try.underlying65 rfl (by kernel_rfl)) rfl ⟨rfl, below_setRow hB5 (by rw [hG.out]; omega) _⟩
    · go_wp2_with (first
        | (refine wpList_load_row rfl 65 _ rfl g2 rfl 65 _ (0, 0) _ hx5 Try.underlying65 rfl (by kernel_rfl) ?_)
        | (refine wpList_store_row rfl 65 _ _ rfl g _ rfl rfl 65 _ hr5 (by kernel_rfl) (by simp) (by simp [Value.oneCell']) ?_))
      refine bodyPost_ret (results_row_tmp rfl _ _ g 65 _ _ rfl (hr5.setRow _) Try.underlying65 rfl (by kernel_rfl)) rfl ⟨rfl, below_setRow hB5 (by rw [hG.out]; omega) _⟩
end Go.Proofs.Ytbjpnkjddfpmpaa
