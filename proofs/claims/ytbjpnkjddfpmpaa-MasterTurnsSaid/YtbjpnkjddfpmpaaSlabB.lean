/- Package slab: numbers as bytes. -/
import Derived.Test.YtbjpnkjddfpmpaaSlabA
import Derived.Test.YtbjpnkjddfpmpaaBytes
import Derived.Test.YtbjpnkjddfpmpaaNum4
import Derived.Handy
namespace Go.Proofs.Ytbjpnkjddfpmpaa
open Go.RowKit

/-- Four bytes, the lowest first. -/
def le4 (n : Nat) : List UInt8 := [UInt8.ofNat n, UInt8.ofNat (n / 256), UInt8.ofNat (n / 65536), UInt8.ofNat (n / 16777216)]
set_option maxRecDepth 100000 in
set_option maxHeartbeats 1000000 in
theorem putHigh_any (g off len cap t n : Nat) (l : List UInt8) (w : World) (hn : n < 4294967296) (hb : Blk w g t (bytesV l)) (ho : off + 4 ≤ l.length) (h4 : 4 ≤ len) (hm : len ≤ 9223372036854775807) :
    Calls Try.prog 37 #[.slice (some ⟨g, off, none⟩) len cap, .int .u32 n] w fun e w' => e = .returned (.tuple #[]) ∧ w.grownBy w' (some g) ∧ Blk w' g t (bytesV (splice l off (be4 n))) := by
  have hN := Lib.hid hn
  clear hn
  have cell : ∀ (w : World) (l : List UInt8) (i : Nat), Blk w g t (bytesV l) → i < l.length → ∃ v, w.cell? ⟨g, i, none⟩ = some v := fun w l i hb hi => ⟨_, hb.cellAt (by rw [bytesV_size]; exact hi)⟩
  go_enter Try.func37, Try.ntmps37
  go_wp2
  refine wp_loop_rounds 5 ?_
  rw [rounds_succ]
  obtain ⟨v0, c0⟩ := cell _ _ off hb (by (try simp only [List.length_set]); omega)
  have f0 := hb.frozen off
  have hb0 := hb.setB off (n / 16777216) ((n : Int) / 16777216 % 256) (by omega)
  go_wp2
  rw [rounds_succ]
  obtain ⟨v1, c1⟩ := cell _ _ (off + 1) hb0 (by (try simp only [List.length_set]); omega)
  have f1 := hb0.frozen (off + 1)
  have hb1 := hb0.setB (off + 1) (n / 65536) ((n : Int) / 65536 % 256) (by omega)
  go_wp2
  rw [rounds_succ]
  obtain ⟨v2, c2⟩ := cell _ _ (off + 2) hb1 (by (try simp only [List.length_set]); omega)
  have f2 := hb1.frozen (off + 2)
  have hb2 := hb1.setB (off + 2) (n / 256) ((n : Int) / 256 % 256) (by omega)
  go_wp2
  rw [rounds_succ]
  obtain ⟨v3, c3⟩ := cell _ _ (off + 3) hb2 (by (try simp only [List.length_set]); omega)
  have f3 := hb2.frozen (off + 3)
  have hb3 := hb2.setB (off + 3) (n) ((n : Int) % 256) (by omega)
  go_wp2
  rw [rounds_succ]
  go_wp2
  go_end0
  refine ⟨rfl, ?_, ?_⟩
  · exact grown_trans' (grown_trans' (grown_trans' (grown_set _ _ _ _) (grown_set _ _ _ _)) (grown_set _ _ _ _)) (grown_set _ _ _ _)
  · rw [be4, ← set4 _ _ _ _ _ _ ho]
    exact hb3

set_option maxRecDepth 100000 in
set_option maxHeartbeats 1000000 in
theorem putLow_any (g off len cap t n : Nat) (l : List UInt8) (w : World) (hn : n < 4294967296) (hb : Blk w g t (bytesV l)) (ho : off + 4 ≤ l.length) (h4 : 4 ≤ len) (hm : len ≤ 9223372036854775807) :
    Calls Try.prog 38 #[.slice (some ⟨g, off, none⟩) len cap, .int .u32 n] w fun e w' => e = .returned (.tuple #[]) ∧ w.grownBy w' (some g) ∧ Blk w' g t (bytesV (splice l off (le4 n))) := by
  have hN := Lib.hid hn
  clear hn
  have cell : ∀ (w : World) (l : List UInt8) (i : Nat), Blk w g t (bytesV l) → i < l.length → ∃ v, w.cell? ⟨g, i, none⟩ = some v := fun w l i hb hi => ⟨_, hb.cellAt (by rw [bytesV_size]; exact hi)⟩
  go_enter Try.func38, Try.ntmps38
  go_wp2
  refine wp_loop_rounds 5 ?_
  rw [rounds_succ]
  obtain ⟨v0, c0⟩ := cell _ _ off hb (by (try simp only [List.length_set]); omega)
  have f0 := hb.frozen off
  have hb0 := hb.setB off (n) ((n : Int) % 256) (by omega)
  go_wp2
  rw [rounds_succ]
  obtain ⟨v1, c1⟩ := cell _ _ (off + 1) hb0 (by (try simp only [List.length_set]); omega)
  have f1 := hb0.frozen (off + 1)
  have hb1 := hb0.setB (off + 1) (n / 256) ((n : Int) / 256 % 256) (by omega)
  go_wp2
  rw [rounds_succ]
  obtain ⟨v2, c2⟩ := cell _ _ (off + 2) hb1 (by (try simp only [List.length_set]); omega)
  have f2 := hb1.frozen (off + 2)
  have hb2 := hb1.setB (off + 2) (n / 65536) ((n : Int) / 65536 % 256) (by omega)
  go_wp2
  rw [rounds_succ]
  obtain ⟨v3, c3⟩ := cell _ _ (off + 3) hb2 (by (try simp only [List.length_set]); omega)
  have f3 := hb2.frozen (off + 3)
  have hb3 := hb2.setB (off + 3) (n / 16777216) ((n : Int) / 16777216 % 256) (by omega)
  go_wp2
  rw [rounds_succ]
  go_wp2
  go_end0
  refine ⟨rfl, ?_, ?_⟩
  · exact grown_trans' (grown_trans' (grown_trans' (grown_set _ _ _ _) (grown_set _ _ _ _)) (grown_set _ _ _ _)) (grown_set _ _ _ _)
  · rw [le4, ← set4 _ _ _ _ _ _ ho]
    exact hb3

set_option maxRecDepth 100000 in
set_option maxHeartbeats 1000000 in
theorem getHigh_any (s : ByteArray) (w : World) (h4 : 4 ≤ s.size) :
    Calls Try.prog 46 #[.string s] w fun e w' => e = .returned (.int .u32 (num4 s.data.toList : Nat)) ∧ Below w.heap.size w w' := by
  have b0 : (s[0].toNat : Int) < 256 := by have := s[0].toNat_lt; omega
  have b1 : (s[1].toNat : Int) < 256 := by have := s[1].toNat_lt; omega
  have b2 : (s[2].toNat : Int) < 256 := by have := s[2].toNat_lt; omega
  have b3 : (s[3].toNat : Int) < 256 := by have := s[3].toNat_lt; omega
  have i0 : 0 < s.size := by omega
  have i1 : (1 : Int) < s.size := by omega
  have i2 : (2 : Int) < s.size := by omega
  have i3 : (3 : Int) < s.size := by omega
  have hr := or_be (s[0].toNat) (s[1].toNat) (s[2].toNat) (s[3].toNat) s[0].toNat_lt s[1].toNat_lt s[2].toNat_lt s[3].toNat_lt
  have hr' := Lib.hid hr
  clear hr
  go_enter Try.func46, Try.ntmps46
  go_wp2
  refine wp_loop_rounds 5 ?_
  rw [rounds_succ]
  go_wp2
  rw [rounds_succ]
  go_wp2
  rw [rounds_succ]
  go_wp2
  rw [rounds_succ]
  go_wp2
  rw [rounds_succ]
  go_wp2
  go_ret
  refine ⟨?_, Below.refl _ _⟩
  rw [hr'.out, num4, getD_at s 0 (by omega), getD_at s 1 (by omega), getD_at s 2 (by omega), getD_at s 3 (by omega)]
  rfl
end Go.Proofs.Ytbjpnkjddfpmpaa
