/- math/bits.Mul of 1 and a small number; slices.Repeat of one text. -/
import Derived.Test.YtbjpnkjddfpmpaaClone
import Derived.Test.YtbjpnkjddfpmpaaFoot
import Derived.Laws.OwnMore
import Derived.Laws.CopyRow
import Derived.Laws.CopyOwn
import Derived.Laws.BitsAllLaws
import Derived.Test.YtbjpnkjddfpmpaaRegionF
namespace Go.Proofs.Ytbjpnkjddfpmpaa
open Go.RowKit

set_option maxRecDepth 100000 in
set_option maxHeartbeats 1000000 in
theorem mul64_core (n : Int) (h0 : 0 ≤ n) (h1 : n < 4294967296) (ha : bits .and .u64 n 4294967295 = n) (hs : n / 4294967296 = 0) (hc : bits .and .u64 1 4294967295 = 1) (hz : bits .and .u64 0 4294967295 = 0) (w : World) :
    Calls Try.prog 45 #[.int .u64 1, .int .u64 n] w fun e w' => e = .returned (.tuple #[.int .u64 0, .int .u64 n]) ∧ w = w' := by
  go_enter Try.func45, Try.ntmps45
  go_wp2
  go_ret2
  exact ⟨rfl, rfl⟩
theorem mul64_one (n : Nat) (h : n < 4294967296) (w : World) :
    Calls Try.prog 45 #[.int .u64 1, .int .u64 n] w fun e w' => e = .returned (.tuple #[.int .u64 0, .int .u64 n]) ∧ w = w' := by
  have and : ∀ m : Nat, m < 4294967296 → bits .and .u64 (m : Int) 4294967295 = m := fun m hm => by
    have h1 := (bits_nat .u64 62 (by decide) (fun n h0 h1 => by rw [IntKind.wrap_u64]; omega) m 4294967295 (by omega) (by omega)).1
    rw [show (4294967295 : Nat) = 2 ^ 32 - 1 from rfl, Nat.and_two_pow_sub_one_eq_mod, Nat.mod_eq_of_lt (by omega)] at h1
    simpa using h1
  exact mul64_core n (by omega) (by omega) (and n h) (by omega) (and 1 (by omega)) (and 0 (by omega)) w
set_option maxRecDepth 100000 in
set_option maxHeartbeats 1000000 in
theorem mul_one (n : Nat) (h : n ≤ 512) (w : World) :
    Calls Try.prog 33 #[.int .u64 1, .int .u64 n] w fun e w' => e = .returned (.tuple #[.int .u64 0, .int .u64 n]) ∧ w = w' := by
  have h0 : (0 : Int) ≤ n := Int.natCast_nonneg _
  have H := Lib.hid (fun W => mul64_one n (by omega) W)
  go_enter Try.func33, Try.ntmps33
  go_wp2_with fail
  refine (H.out _).mono ?_
  rintro e w1 ⟨rfl, rfl⟩
  go_wp2
  go_ret2
  exact ⟨rfl, rfl⟩

/-- A row of n texts, the first k of which are s. -/
def filledL (s : ByteArray) (n k : Nat) : List Value := List.replicate k (Value.string s) ++ List.replicate (n - k) (Value.string ⟨#[]⟩)
def filled (s : ByteArray) (n k : Nat) : Array Value := (filledL s n k).toArray
theorem filled_size (s : ByteArray) {n k : Nat} (h : k ≤ n) : (filled s n k).size = n := by simp [filled, filledL]; omega
theorem info_string : (Try.prog.info? 9).map (fun i => (i.zero, i.size, i.bytes)) = some (some (.string ⟨#[]⟩), 1, 16) := by kernel_rfl
theorem filled_copy (s : ByteArray) (n k m : Nat) (_h : k + m ≤ n) : ((filled s n k).toList.take k ++ List.replicate m (Value.string s) ++ (filled s n k).toList.drop (k + m)).toArray = filled s n (k + m) := by
  unfold filled filledL
  have e1 : (List.replicate k (Value.string s) ++ List.replicate (n - k) (Value.string ⟨#[]⟩)).take k = List.replicate k (Value.string s) := by
    rw [List.take_append_of_le_length (by simp)]; simp
  have e2 : (List.replicate k (Value.string s) ++ List.replicate (n - k) (Value.string ⟨#[]⟩)).drop (k + m) = List.replicate (n - (k + m)) (Value.string ⟨#[]⟩) := by
    rw [List.drop_append]
    simp
    omega
  simp only [e1, e2]
  rw [ ← List.replicate_append_replicate (n := k) (m := m)]

theorem addAt (b k j : Nat) : (⟨b, k, none⟩ : Addr).add j = ⟨b, k + j, none⟩ := by unfold Addr.add; split <;> simp_all
set_option maxRecDepth 100000 in
set_option maxHeartbeats 4000000 in
theorem repeat_one (s : ByteArray) (x n : Nat) (w : World) (hx : w.cell? ⟨x, 0, none⟩ = some (.string s)) (h1 : 1 ≤ n) (hn : n ≤ 512) :
    Calls Try.prog 17 #[.slice (some ⟨x, 0, none⟩) 1 1, .int .i64 n] w fun e w' => ∃ g, e = .returned (.slice (some ⟨g, 0, none⟩) n n) ∧ Blk w' g 9 (filled s n n) ∧ w.heap.size ≤ g ∧ Below w.heap.size w w' := by
  obtain ⟨i, hi, hz, hs1, hs2⟩ := info_parts info_string
  have HM := Lib.hid (fun W => mul_one n hn W)
  have hlx := World.block_lt_of_cell? w _ hx
  have hmk : ∀ W : World, (Instr.makeSlice 50 (.int .i64 (n : Int)) (.int .i64 (n : Int))).run Try.prog W = .ok (.slice (some ⟨W.heap.size, 0, none⟩) n n) (W.alloc (.cells (filled s n 0) 9)) := fun W => by
    have h := run_make (P := Try.prog) W 50 9 i (.string ⟨#[]⟩) Try.underlying50 hi hz .i64 .i64 (n : Int) (n : Int) (by omega) (by omega) (by rw [hs2]; omega) (by omega)
    have e : madeCells (Value.string ⟨#[]⟩).cells (((n : Nat) : Int).toNat * i.size) = filled s n 0 := by
      apply Array.ext'
      rw [hs1]
      simp only [Int.toNat_natCast, Nat.mul_one]
      rw [show (Value.string ⟨#[]⟩).cells = #[Value.string ⟨#[]⟩] from rfl, toList_madeCells_one]
      simp [filled, filledL]
    rw [e] at h
    simpa using h
  have b0 : Blk (w.alloc (.cells (filled s n 0) 9)) w.heap.size 9 (filled s n 0) := Blk.new _ _ _
  have hB0 : Below w.heap.size w (w.alloc (.cells (filled s n 0) 9)) := (Below.refl _ _).alloc (Nat.le_refl _) _
  have hx0 := (hB0.cell (p := ⟨x, 0, none⟩) hlx).trans hx
  have hinf : (Try.prog.info? 9).map (·.size) = some 1 := by kernel_rfl
  have hcp := run_copy_row (P := Try.prog) _ 50 50 3 9 w.heap.size 0 n n ⟨x, 0, none⟩ 1 1 (filled s n 0) 9 [.string s] Try.underlying50 hinf b0 (by simp only [List.length_singleton, Nat.min_def]; split <;> omega)
    (fun j v hj => by
      match j, hj with
      | 0, hj => simp at hj; subst hj; rw [addAt]; exact hx0) (by rw [filled_size s (Nat.zero_le _)]; simp; omega) (by simp [Value.oneCell'])
  have hfc := filled_copy s n 0 1 (by omega)
  simp only [Nat.zero_add, List.replicate_one] at hfc
  simp only [List.length_singleton, Nat.zero_add] at hcp
  rw [hfc] at hcp
  have b1 := b0.setRow (filled s n 1)
  have hB1 := below_setRow hB0 (Nat.le_refl _) (filled s n 1)
  have HC := fun (W : World) (k m : Nat) (hb : Blk W w.heap.size 9 (filled s n k)) (hm : m ≤ k) (j : Nat) (v : Value) (hj : (List.replicate m (Value.string s))[j]? = some v) => (show W.cell? ((⟨w.heap.size, 0, none⟩ : Addr).add j) = some v from by
      rw [List.getElem?_replicate] at hj
      split at hj
      · rename_i hjm
        rw [addAt, hb.cell, ← hj]
        simp [filled, filledL, List.getElem?_append, show j < k by omega]
      · cases hj)
  have H1 := Lib.hid (show _ ∧ _ from ⟨b1, hB1⟩)
  have HC' := Lib.hid HC
  clear HC hfc b0 hB0 hx0 b1 hB1 hx
  have h0 : (0 : Int) ≤ n := Int.natCast_nonneg _
  have hgt : decide ((9223372036854775807 : Int) < (n : Int)) = false := by simp; omega
  go_enter Try.func17, Try.ntmps17
  go_wp2_with fail
  refine (HM.out _).mono ?_
  rintro e w1 ⟨rfl, rfl⟩
  go_wp2_with fail
  go_loopw [8] (fun v wr => ∃ k : Nat, 1 ≤ k ∧ k ≤ n ∧ v = .int .i64 k ∧ Blk wr w.heap.size 9 (filled s n k) ∧ Below w.heap.size w wr) (fun v _ => n - (intOf v).toNat)
  case atStart => exact ⟨1, Nat.le_refl _, h1, rfl, H1.out⟩
  case round =>
    obtain ⟨k, hk1, hkn, rfl, hb, hB⟩ := hrel
    clear hcp hmk
    by_cases hlt : k < n
    · obtain ⟨m, hm⟩ : ∃ m, m = Nat.min k (n - k) := ⟨_, rfl⟩
      have hm1 : 1 ≤ m := by rw [hm]; simp only [Nat.min_def]; split <;> omega
      have hkm : k + m ≤ n := by rw [hm]; simp only [Nat.min_def]; split <;> omega
      have hmk : m ≤ k := by rw [hm]; exact Nat.min_le_left _ _
      have HM := Lib.hid hm
      have HB := Lib.hid hb
      have HBL := Lib.hid hB
      have HF := Lib.hid (filled_copy s n k m hkm)
      have hkI : (k : Int) < n := by omega
      have hne : ¬ n = k := by omega
      have hk0 : (0 : Int) ≤ k := Int.natCast_nonneg _
      have hsub : ((n : Int) - k).toNat = n - k := by omega
      clear hm hb hB
      go_wp2_with fail
      refine' wp_region_free [0] 7 [.is (.int .i64 (k : Int)), .is _, .is _, .is _, .is _, .is _, .is _] (by kernel_rfl) (by kernel_rfl) (by kernel_rfl) (by kernel_rfl) (by kernel_rfl) rfl ⟨rfl, trivial⟩ (fun _ _ _ _ _ h => h) ?main
      case main =>
        iterate 7
          refine obs_is (fun w2 hE2 _ => ?_) ?_
          · go_wp2
            exact post_is (Below.refl _ _)
          simp only [Act.put, List.setIfInBounds_toArray, List.set_cons_zero, List.set_cons_succ]
        refine obs_end fun w3 hE3 _ => ?_
        have hb := HB.out.drew.keep hE3 HB.out.lt
        have hcp := run_copy_row (P := Try.prog) w3 50 50 3 9 w.heap.size k (n - k) (n - k) ⟨w.heap.size, 0, none⟩ k n (filled s n k) 9 (List.replicate m (.string s)) Try.underlying50 hinf hb (by rw [List.length_replicate]; exact HM.out)
          (HC'.out w3 k m hb hmk) (by rw [filled_size s (by omega), List.length_replicate]; exact hkm) (fun v hv => by rw [List.eq_of_mem_replicate hv]; rfl)
        rw [List.length_replicate, HF.out] at hcp
        have hb2 := Lib.hid (hb.setRow (filled s n (k + m)))
        have hB2 := Lib.hid (below_setRow (HBL.out.drew.trans (hE3.mono (by have := HBL.out.size; exact this))) (Nat.le_refl _) (filled s n (k + m)))
        clear hb
        go_wp2
        go_roundw
        case rel => exact ⟨k + m, by omega, hkm, by go_num, hb2.out, hB2.out⟩
        case measure => simp [intOf]; omega
    · obtain rfl : k = n := by omega
      go_wp2
      go_ret
      exact ⟨_, rfl, hb, Nat.le_refl _, hB⟩
end Go.Proofs.Ytbjpnkjddfpmpaa
