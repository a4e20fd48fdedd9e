/- Package slab: numbers as bytes. -/
import Derived.Test.YtdhpghciegiikaaSlabA
import Derived.Handy
namespace Go.Proofs.Ytdhpghciegiikaa
open Go.RowKit

/-- Bytes as the cells of a block. -/
def bytesV (l : List UInt8) : Array Value := (l.map fun b => Value.int .u8 b.toNat).toArray
theorem bytesV_size (l : List UInt8) : (bytesV l).size = l.length := by simp [bytesV]
theorem bytesV_set (l : List UInt8) (i : Nat) (v : UInt8) : (bytesV l).setIfInBounds i (.int .u8 v.toNat) = bytesV (l.set i v) := by
  simp [bytesV, List.map_set]
/-- Four bytes, the highest first; the lowest first. -/
def be4 (n : Nat) : List UInt8 := [UInt8.ofNat (n / 16777216), UInt8.ofNat (n / 65536), UInt8.ofNat (n / 256), UInt8.ofNat n]
def le4 (n : Nat) : List UInt8 := [UInt8.ofNat n, UInt8.ofNat (n / 256), UInt8.ofNat (n / 65536), UInt8.ofNat (n / 16777216)]
theorem splice_nil {α : Type} (l : List α) (o : Nat) : splice l o [] = l := by simp [splice]
theorem splice_cons {α : Type} (l : List α) (o : Nat) (x : α) (xs : List α) (h : o < l.length) : splice l o (x :: xs) = splice (l.set o x) (o + 1) xs := by
  unfold splice
  have h1 : (l.set o x).take (o + 1) = l.take o ++ [x] := by
    rw [List.take_succ_eq_append_getElem (by simpa using h)]
    simp [List.take_set_of_le]
  have h2 : (l.set o x).drop (o + 1 + xs.length) = l.drop (o + (x :: xs).length) := by
    rw [List.drop_set_of_lt (by omega)]
    congr 1
    simp
    omega
  rw [h1, h2]
  simp
theorem set4 (l : List UInt8) (o : Nat) (a b c d : UInt8) (h : o + 4 ≤ l.length) :
    (((l.set o a).set (o + 1) b).set (o + 2) c).set (o + 3) d = splice l o [a, b, c, d] := by
  rw [splice_cons _ _ _ _ (by omega), splice_cons _ _ _ _ (by simp; omega), splice_cons _ _ _ _ (by simp; omega), splice_cons _ _ _ _ (by simp; omega), splice_nil]
theorem grown_set (w : World) (g i : Nat) (v : Value) : w.grownBy (w.setCell ⟨g, i, none⟩ v) (some g) :=
  ⟨rfl, rfl, rfl, by simp [World.setCell], fun k _ hne => heap_setCell_other w _ k v (fun e => hne (by rw [e]))⟩
theorem grown_trans' {a b c : World} {r : Option Nat} (h : a.grownBy b r) (k : b.grownBy c r) : a.grownBy c r :=
  ⟨k.os.trans h.os, k.tape.trans h.tape, k.output.trans h.output, Nat.le_trans h.size k.size, fun i hi hne => (k.block i (Nat.lt_of_lt_of_le hi h.size) hne).trans (h.block i hi hne)⟩

theorem Blk.setB {w : World} {g t : Nat} {l : List UInt8} (h : Blk w g t (bytesV l)) (i x : Nat) (v : Int) (hv : v = (x : Int) % 256) :
    Blk (w.setCell ⟨g, i, none⟩ (.int .u8 v)) g t (bytesV (l.set i (UInt8.ofNat x))) := by
  have e : v = ((UInt8.ofNat x).toNat : Int) := by rw [hv]; simp
  rw [e, ← bytesV_set]
  exact h.set i _

set_option maxRecDepth 100000 in
set_option maxHeartbeats 1000000 in
theorem putHigh_any (g off len cap t n : Nat) (l : List UInt8) (w : World) (hn : n < 4294967296) (hb : Blk w g t (bytesV l)) (ho : off + 4 ≤ l.length) (h4 : 4 ≤ len) (hm : len ≤ 9223372036854775807) :
    Calls Try.prog 18 #[.slice (some ⟨g, off, none⟩) len cap, .int .u32 n] w fun e w' => e = .returned (.tuple #[]) ∧ w.grownBy w' (some g) ∧ Blk w' g t (bytesV (splice l off (be4 n))) := by
  have hN := Lib.hid hn
  clear hn
  have cell : ∀ (w : World) (l : List UInt8) (i : Nat), Blk w g t (bytesV l) → i < l.length → ∃ v, w.cell? ⟨g, i, none⟩ = some v := fun w l i hb hi => ⟨_, hb.cellAt (by rw [bytesV_size]; exact hi)⟩
  go_enter Try.func18, Try.ntmps18
  go_wp2
  refine wp_loop_rounds 5 ?_
  rw [rounds_succ]
  obtain ⟨v0, c0⟩ := cell _ _ off hb (by (try simp only [List.length_set]); omega)
  have f0 := hb.frozen off
  have hb0 := hb.setB off (n / 16777216) ((n : Int) / 16777216 % 256) (by omega)
  go_wp2
  rw [rounds_succ]
  obtain ⟨v1, c1⟩ := cell _ _ (off + 1) hb0 (by (try simp only [List.length_set]); omega)
  have f1 := hb0.frozen (off + 1)
  have hb1 := hb0.setB (off + 1) (n / 65536) ((n : Int) / 65536 % 256) (by omega)
  go_wp2
  rw [rounds_succ]
  obtain ⟨v2, c2⟩ := cell _ _ (off + 2) hb1 (by (try simp only [List.length_set]); omega)
  have f2 := hb1.frozen (off + 2)
  have hb2 := hb1.setB (off + 2) (n / 256) ((n : Int) / 256 % 256) (by omega)
  go_wp2
  rw [rounds_succ]
  obtain ⟨v3, c3⟩ := cell _ _ (off + 3) hb2 (by (try simp only [List.length_set]); omega)
  have f3 := hb2.frozen (off + 3)
  have hb3 := hb2.setB (off + 3) (n) ((n : Int) % 256) (by omega)
  go_wp2
  rw [rounds_succ]
  go_wp2
  go_end0
  refine ⟨rfl, ?_, ?_⟩
  · exact grown_trans' (grown_trans' (grown_trans' (grown_set _ _ _ _) (grown_set _ _ _ _)) (grown_set _ _ _ _)) (grown_set _ _ _ _)
  · rw [be4, ← set4 _ _ _ _ _ _ ho]
    exact hb3

set_option maxRecDepth 100000 in
set_option maxHeartbeats 1000000 in
theorem putLow_any (g off len cap t n : Nat) (l : List UInt8) (w : World) (hn : n < 4294967296) (hb : Blk w g t (bytesV l)) (ho : off + 4 ≤ l.length) (h4 : 4 ≤ len) (hm : len ≤ 9223372036854775807) :
    Calls Try.prog 19 #[.slice (some ⟨g, off, none⟩) len cap, .int .u32 n] w fun e w' => e = .returned (.tuple #[]) ∧ w.grownBy w' (some g) ∧ Blk w' g t (bytesV (splice l off (le4 n))) := by
  have hN := Lib.hid hn
  clear hn
  have cell : ∀ (w : World) (l : List UInt8) (i : Nat), Blk w g t (bytesV l) → i < l.length → ∃ v, w.cell? ⟨g, i, none⟩ = some v := fun w l i hb hi => ⟨_, hb.cellAt (by rw [bytesV_size]; exact hi)⟩
  go_enter Try.func19, Try.ntmps19
  go_wp2
  refine wp_loop_rounds 5 ?_
  rw [rounds_succ]
  obtain ⟨v0, c0⟩ := cell _ _ off hb (by (try simp only [List.length_set]); omega)
  have f0 := hb.frozen off
  have hb0 := hb.setB off (n) ((n : Int) % 256) (by omega)
  go_wp2
  rw [rounds_succ]
  obtain ⟨v1, c1⟩ := cell _ _ (off + 1) hb0 (by (try simp only [List.length_set]); omega)
  have f1 := hb0.frozen (off + 1)
  have hb1 := hb0.setB (off + 1) (n / 256) ((n : Int) / 256 % 256) (by omega)
  go_wp2
  rw [rounds_succ]
  obtain ⟨v2, c2⟩ := cell _ _ (off + 2) hb1 (by (try simp only [List.length_set]); omega)
  have f2 := hb1.frozen (off + 2)
  have hb2 := hb1.setB (off + 2) (n / 65536) ((n : Int) / 65536 % 256) (by omega)
  go_wp2
  rw [rounds_succ]
  obtain ⟨v3, c3⟩ := cell _ _ (off + 3) hb2 (by (try simp only [List.length_set]); omega)
  have f3 := hb2.frozen (off + 3)
  have hb3 := hb2.setB (off + 3) (n / 16777216) ((n : Int) / 16777216 % 256) (by omega)
  go_wp2
  rw [rounds_succ]
  go_wp2
  go_end0
  refine ⟨rfl, ?_, ?_⟩
  · exact grown_trans' (grown_trans' (grown_trans' (grown_set _ _ _ _) (grown_set _ _ _ _)) (grown_set _ _ _ _)) (grown_set _ _ _ _)
  · rw [le4, ← set4 _ _ _ _ _ _ ho]
    exact hb3

theorem or_u32 (a b : Nat) (ha : a < 16777216) (hb : b < 256) : bits .or .u32 ((a : Int) * 256 % 4294967296) (b : Int) = ((a * 256 + b : Nat) : Int) := by
  have h := u32_or_nat (a * 256) b (by omega) (by omega)
  rw [show (a : Int) * 256 % 4294967296 = ((a * 256 : Nat) : Int) from by omega, h]
  congr 1
  have := Nat.shiftLeft_add_eq_or_of_lt (b := b) (i := 8) (by omega) a
  rw [Nat.shiftLeft_eq] at this
  exact this.symm
theorem or_be (a b c d : Nat) (ha : a < 256) (hb : b < 256) (hc : c < 256) (hd : d < 256) :
    bits .or .u32 (bits .or .u32 (bits .or .u32 (bits .or .u32 0 (a : Int) * 256 % 4294967296) (b : Int) * 256 % 4294967296) (c : Int) * 256 % 4294967296) (d : Int) = ((a * 16777216 + b * 65536 + c * 256 + d : Nat) : Int) := by
  have h0 : bits .or .u32 0 (a : Int) = (a : Int) := by
    have := u32_or_nat 0 a (by omega) (by omega)
    simpa using this
  rw [h0, or_u32 a b (by omega) hb, or_u32 _ c (by omega) hc, or_u32 _ d (by omega) hd]
  omega
theorem getD_at (s : ByteArray) (i : Nat) (h : i < s.size) : s.data.toList.getD i 0 = s[i] := by
  rw [List.getD_eq_getElem?_getD, List.getElem?_eq_getElem (by simpa using h)]
  rfl

/-- Four bytes as a number, the highest first. -/
def num4 (l : List UInt8) : Nat := (l.getD 0 0).toNat * 16777216 + (l.getD 1 0).toNat * 65536 + (l.getD 2 0).toNat * 256 + (l.getD 3 0).toNat

set_option maxRecDepth 100000 in
set_option maxHeartbeats 1000000 in
theorem number_any (s : ByteArray) (w : World) (h4 : 4 ≤ s.size) :
    Calls Try.prog 16 #[.string s] w fun e w' => e = .returned (.int .u32 (num4 s.data.toList : Nat)) ∧ Below w.heap.size w w' := by
  have b0 : (s[0].toNat : Int) < 256 := by have := s[0].toNat_lt; omega
  have b1 : (s[1].toNat : Int) < 256 := by have := s[1].toNat_lt; omega
  have b2 : (s[2].toNat : Int) < 256 := by have := s[2].toNat_lt; omega
  have b3 : (s[3].toNat : Int) < 256 := by have := s[3].toNat_lt; omega
  have i0 : 0 < s.size := by omega
  have i1 : (1 : Int) < s.size := by omega
  have i2 : (2 : Int) < s.size := by omega
  have i3 : (3 : Int) < s.size := by omega
  go_enter Try.func16, Try.ntmps16
  go_wp2
  go_region
  all_goals
    go_wp2
    go_ret
    refine ⟨?_, (Below.refl _ _).drew⟩
    rw [num4, getD_at s 0 (by omega), getD_at s 1 (by omega), getD_at s 2 (by omega), getD_at s 3 (by omega)]
    congr 1

set_option maxRecDepth 100000 in
set_option maxHeartbeats 1000000 in
theorem getHigh_any (s : ByteArray) (w : World) (h4 : 4 ≤ s.size) :
    Calls Try.prog 21 #[.string s] w fun e w' => e = .returned (.int .u32 (num4 s.data.toList : Nat)) ∧ Below w.heap.size w w' := by
  have b0 : (s[0].toNat : Int) < 256 := by have := s[0].toNat_lt; omega
  have b1 : (s[1].toNat : Int) < 256 := by have := s[1].toNat_lt; omega
  have b2 : (s[2].toNat : Int) < 256 := by have := s[2].toNat_lt; omega
  have b3 : (s[3].toNat : Int) < 256 := by have := s[3].toNat_lt; omega
  have i0 : 0 < s.size := by omega
  have i1 : (1 : Int) < s.size := by omega
  have i2 : (2 : Int) < s.size := by omega
  have i3 : (3 : Int) < s.size := by omega
  have hr := or_be (s[0].toNat) (s[1].toNat) (s[2].toNat) (s[3].toNat) s[0].toNat_lt s[1].toNat_lt s[2].toNat_lt s[3].toNat_lt
  have hr' := Lib.hid hr
  clear hr
  go_enter Try.func21, Try.ntmps21
  go_wp2
  refine wp_loop_rounds 5 ?_
  rw [rounds_succ]
  go_wp2
  rw [rounds_succ]
  go_wp2
  rw [rounds_succ]
  go_wp2
  rw [rounds_succ]
  go_wp2
  rw [rounds_succ]
  go_wp2
  go_ret
  refine ⟨?_, Below.refl _ _⟩
  rw [hr'.out, num4, getD_at s 0 (by omega), getD_at s 1 (by omega), getD_at s 2 (by omega), getD_at s 3 (by omega)]
  rfl

theorem refStep_odd {m : Nat} (h : m < 4294967296) (ho : ((m : Int) % 2 == 1) = true) : bits .xor .u32 ((m : Int) / 2) 3988292384 = (Crc.step m : Nat) := by
  have h1 : m % 2 = 1 := by simp at ho; omega
  rw [xor_poly m h, Crc.step, if_pos h1]
theorem refStep_even {m : Nat} (ho : ((m : Int) % 2 == 1) = false) : ((m : Int) / 2) = (Crc.step m : Nat) := by
  have h1 : ¬ m % 2 = 1 := by simp at ho; omega
  rw [Crc.step, if_neg h1]
  simp

set_option maxRecDepth 100000 in
set_option maxHeartbeats 1000000 in
theorem refSum_any (s : ByteArray) (w : World) (hs : s.size ≤ maxLen) :
    Calls Try.prog 12 #[.string s] w fun e w' => e = .returned (.int .u32 (Crc.sum s.data.toList : Nat)) ∧ Below w.heap.size w w' := by
  unfold maxLen at hs
  go_enter Try.func12, Try.ntmps12
  go_wp2
  go_loop [3, 4, 5] (fun n i _ => ∃ k : Nat, k ≤ s.size ∧ i = .int .i64 k ∧ n = .int .u32 (crcTo s k : Nat)) (fun _ i _ => s.size - (intOf i).toNat)
  case atStart => exact ⟨0, Nat.zero_le _, rfl, rfl⟩
  case round =>
    obtain ⟨k, hk', rfl, rfl⟩ := hrel
    have hl := crcTo_lt s k
    have hL := Lib.hid hl
    by_cases hlt : k < s.size
    · have hbyte : (s[k].toNat : Int) < 256 := by have := s[k].toNat_lt; omega
      have hx := xor_u32 (a := crcTo s k) (b := s[k].toNat) hl (by have := s[k].toNat_lt; omega)
      have hxl := Crc.xor_lt (a := crcTo s k) (b := s[k].toNat) hl (by have := s[k].toNat_lt; omega)
      have hS : Hid (stepN 8 (crcTo s k ^^^ s[k].toNat) = crcTo s (k + 1)) := by
        show _ = _
        rw [crcTo_succ s k hlt]
        rfl
      clear hl
      generalize crcTo s k ^^^ s[k].toNat = m0 at *
      have hM := Lib.hid hxl
      clear hxl
      go_wp2
      clear hx
      go_loop [3, 5] (fun n i => ∃ j : Nat, j ≤ 8 ∧ i = .int .i64 j ∧ n = .int .u32 (stepN j m0 : Nat)) (fun _ i => 8 - (intOf i).toNat)
      case atStart => exact ⟨0, by omega, rfl, rfl⟩
      case round =>
        obtain ⟨j, hj, rfl, rfl⟩ := hrel
        have hq := stepN_lt hM.out j
        by_cases h8 : j < 8
        · go_wp2
          · go_round
            case rel => exact ⟨j + 1, by omega, by go_num, by rw [refStep_odd hq (by assumption)]; rfl⟩
            case measure => simp [intOf]; omega
          · go_round
            case rel => exact ⟨j + 1, by omega, by go_num, by rw [refStep_even (by assumption)]; rfl⟩
            case measure => simp [intOf]; omega
        · have hj8 : j = 8 := by omega
          subst hj8
          go_wp2
          go_round
          case rel => exact ⟨k + 1, by omega, by go_num, by rw [← hS.out]⟩
          case measure => simp [intOf]; omega
    · clear hl
      obtain rfl : k = s.size := by omega
      have hn := Lib.hid (not_u32 hL.out)
      have hf := Lib.hid (show crcTo s s.size = Crc.run 4294967295 s.data.toList by unfold crcTo; rw [List.take_of_length_le (by simp)])
      go_wp2
      go_ret
      exact ⟨by rw [hn.out, hf.out]; rfl, Below.refl _ _⟩
end Go.Proofs.Ytdhpghciegiikaa
