/- Texts that belong together, joined: SlabA, SlabB, SlabC, SlabDm, SlabE, SlabF, SlabGm. -/
import Derived.Test.YtbplgbkbggmaeaaGreatRows
import Derived.Test.YtbplgbkbggmaeaaGreatKbase
import Derived.Handy
import Derived.Lib.BufferWrite
import Derived.Lib.UnsafeStr
import Derived.Deep.RegionHeld3
import Derived.Deep.RegionWith
import Derived.Test.YtbplgbkbggmaeaaGreatKreg
namespace Go.Proofs.YtbplgbkbggmaeaaGreat
open Go.RowKit
def tab (k : Nat) : Array Value := ((List.range 16).map fun i => if i < k then Value.int .u32 (Crc.step4 i : Nat) else .int .u32 0).toArray
theorem tab_size (k : Nat) : (tab k).size = 16 := by simp [tab]
theorem tab_set (k : Nat) : (tab k).setIfInBounds k (.int .u32 (Crc.step4 k : Nat)) = tab (k + 1) := by
 apply Array.ext
 · simp [tab]
 · intro i h1 h2
   rw [Array.getElem_setIfInBounds (by simpa using h1)]
   simp only [tab, List.getElem_toArray, List.getElem_map, List.getElem_range]
   by_cases hi : k = i
   · subst hi; simp
   · rw [if_neg hi]; congr 1; simp; omega
theorem tab_zero : #[Value.int .u32 0, .int .u32 0, .int .u32 0, .int .u32 0, .int .u32 0, .int .u32 0, .int .u32 0, .int .u32 0, .int .u32 0, .int .u32 0, .int .u32 0, .int .u32 0, .int .u32 0, .int .u32 0, .int .u32 0, .int .u32 0] = tab 0 := by
 simp [tab, List.range, List.range.loop]
def stepN : Nat → Nat → Nat
 | 0, c => c
 | j + 1, c => Crc.step (stepN j c)
theorem stepN_lt {c : Nat} (h : c < 4294967296) (j : Nat) : stepN j c < 4294967296 := by
 induction j with
 | zero => exact h
 | succ j ih => exact Crc.step_lt ih
theorem and_one (m : Nat) (h : m < 4294967296) : bits .and .u32 (m : Int) 1 = ((m % 2 : Nat) : Int) := by
 have := u32_and_nat m 1 h (by omega)
 rw [Nat.and_one_is_mod] at this
 simpa using this
theorem xor_poly (m : Nat) (h : m < 4294967296) : bits .xor .u32 ((m : Int) / 2) 3988292384 = ((m / 2 ^^^ 3988292384 : Nat) : Int) := by
 have := u32_xor_nat (m / 2) 3988292384 (by omega) (by omega)
 simpa using this
theorem step_odd {m : Nat} (h : m < 4294967296) (ho : (bits .and .u32 (m : Int) 1 == 1) = true) : bits .xor .u32 ((m : Int) / 2) 3988292384 = (Crc.step m : Nat) := by
 rw [and_one m h] at ho
 have h1 : m % 2 = 1 := by simp at ho; omega
 rw [xor_poly m h, Crc.step, if_pos h1]
theorem step_even {m : Nat} (h : m < 4294967296) (ho : (bits .and .u32 (m : Int) 1 == 1) = false) : ((m : Int) / 2) = (Crc.step m : Nat) := by
 rw [and_one m h] at ho
 have h1 : ¬ m % 2 = 1 := by simp at ho; omega
 rw [Crc.step, if_neg h1]
 simp
set_option maxHeartbeats 1000000 in
theorem halfSteps_any (w : World) :
   Calls Tryz.prog 169 #[] w fun e w' => e = .returned (.agg (tab 16)) ∧ Below w.heap.size w w' := by
 go_enter Tryz.func169, Tryz.ntmps169
 go_wp2
 rw [tab_zero]
 have hb1 : Blk ((w.alloc (.cells (tab 0) 225)).alloc (.cells (tab 0) 225)) w.heap.size 225 (tab 0) := heap_alloc2_old w _ _
 have hb2 : Blk ((w.alloc (.cells (tab 0) 225)).alloc (.cells (tab 0) 225)) (w.heap.size + 1) 225 (tab 0) := heap_alloc2_new w _ _
 have hbl : Below w.heap.size w ((w.alloc (.cells (tab 0) 225)).alloc (.cells (tab 0) 225)) := ((Below.refl _ _).alloc (Nat.le_refl _) _).alloc (by simp) _
 generalize (w.alloc (.cells (tab 0) 225)).alloc (.cells (tab 0) 225) = w1 at *
 go_loopw [2, 3, 4] (fun _ _ i w' => ∃ k : Nat, k ≤ 16 ∧ i = .int .i64 k ∧ Below w.heap.size w w' ∧ Blk w' w.heap.size 225 (tab 0) ∧ Blk w' (w.heap.size + 1) 225 (tab k)) (fun _ _ i _ => 16 - (intOf i).toNat)
 case atStart => exact ⟨0, by omega, rfl, hbl, hb1, hb2⟩
 case round =>
   obtain ⟨k, hk, rfl, hB, h1, h2⟩ := hrel
   clear hb1 hb2 hbl
   by_cases h16 : k < 16
   · go_wp2
     go_loop [3, 9] (fun n i => ∃ j : Nat, j ≤ 4 ∧ i = .int .i64 j ∧ n = .int .u32 (stepN j k : Nat)) (fun _ i => 4 - (intOf i).toNat)
     case atStart => exact ⟨0, by omega, rfl, rfl⟩
     case round =>
       obtain ⟨j, hj, rfl, rfl⟩ := hrel
       have hs := stepN_lt (c := k) (by omega) j
       by_cases h4 : j < 4
       · go_wp2
         · go_round
           case rel => exact ⟨j + 1, by omega, by go_num, by rw [step_odd hs (by assumption)]; rfl⟩
           case measure => simp [intOf]; omega
         · go_round
           case rel => exact ⟨j + 1, by omega, by go_num, by rw [step_even hs (by assumption)]; rfl⟩
           case measure => simp [intOf]; omega
       · have hc := h2.cellAt (i := k) (by rw [tab_size]; omega)
         have hf := h2.frozen k
         have hj4 : j = 4 := by omega
         subst hj4
         have h2' := h2.set k (.int .u32 (stepN 4 k : Nat))
         rw [show stepN 4 k = Crc.step4 k from rfl, tab_set] at h2'
         have hH := Lib.hid h2'
         clear h2'
         go_wp2
         go_round
         case rel => exact ⟨k + 1, by omega, by go_num, hB.setCell (by simp) _, h1.far (by simp) _, hH.out⟩
         case measure => simp [intOf]; omega
   · obtain rfl : k = 16 := by omega
     go_wp2_with (first
       | (refine wpList_load_row rfl 225 _ rfl _ rfl 225 _ (0, 0) _ h2 Tryz.underlying225 rfl (by rw [tab_size]; kernel_rfl) ?_)
       | (refine wpList_store_row rfl 225 _ _ rfl _ _ rfl rfl 225 _ h1 (by rw [tab_size]; kernel_rfl) (by rw [tab_size, tab_size]) ?hall ?_))
     · decide +kernel
     · exact bodyPost_ret (results_cell_row rfl _ _ w.heap.size 225 (tab 16) (0, 0) _ rfl (h1.setRow _) Tryz.underlying225 rfl (by rw [tab_size]; kernel_rfl)) rfl ⟨rfl, below_setRow hB (Nat.le_refl _) _⟩
def crcTo (s : ByteArray) (k : Nat) : Nat := Crc.run 4294967295 (s.data.toList.take k)
theorem crcTo_lt (s : ByteArray) (k : Nat) : crcTo s k < 4294967296 := Crc.run_lt _ (by omega)
theorem crcTo_succ (s : ByteArray) (k : Nat) (h : k < s.size) : crcTo s (k + 1) = Crc.byteStep (crcTo s k) s[k] := by
 unfold crcTo
 rw [List.take_succ_eq_append_getElem (by simpa using h), Crc.run_snoc]
 rfl
theorem tab_at (i : Nat) (h : i < 16) : (tab 16)[i]? = some (.int .u32 (Crc.step4 i : Nat)) := by
 simp [tab, h]
theorem and_15 (m : Nat) (h : m < 4294967296) : bits .and .u32 (m : Int) 15 = ((m % 16 : Nat) : Int) := by
 have := u32_and_nat m 15 h (by omega)
 rw [show (15 : Nat) = 2 ^ 4 - 1 from rfl, Nat.and_two_pow_sub_one_eq_mod] at this
 simpa using this
theorem xor_u32 {a b : Nat} (ha : a < 4294967296) (hb : b < 4294967296) : bits .xor .u32 (a : Int) (b : Int) = ((a ^^^ b : Nat) : Int) := u32_xor_nat a b ha hb
theorem not_u32 {c : Nat} (h : c < 4294967296) : bits .xor .u32 IntKind.u32.max (c : Int) = ((4294967295 - c : Nat) : Int) := by
 have h1 := u32_xor_nat 4294967295 c (by omega) h
 have h2 : (4294967295 : Nat) ^^^ c = 4294967295 - c := by
   apply Nat.eq_of_testBit_eq
   intro i
   have e := Nat.testBit_two_pow_sub_succ (n := 32) (x := c) h i
   rw [show 2 ^ 32 - (c + 1) = 4294967295 - c from by omega] at e
   rw [e, Nat.testBit_xor, show (4294967295 : Nat) = 2 ^ 32 - 1 from rfl, Nat.testBit_two_pow_sub_one]
   by_cases hi : i < 32
   · simp [hi]
   · have : c.testBit i = false := Nat.testBit_lt_two_pow (Nat.lt_of_lt_of_le h (Nat.pow_le_pow_right (n := 2) (by omega) (Nat.le_of_not_lt hi)))
     simp [hi, this]
 rw [h2] at h1
 exact h1
theorem byte_reads {w : World} {g t c b : Nat} (hb : Blk w g t (tab 16)) (hc : c < 4294967296) (hbb : b < 256) :
   ∃ m i j : Nat, m < 4294967296 ∧ i < 16 ∧ j < 16 ∧
     bits .and .u32 (bits .xor .u32 (c : Int) (b : Int)) 15 = (i : Int) ∧ w.cell? ⟨g, i, none⟩ = some (.int .u32 (Crc.step4 i : Nat)) ∧
     bits .xor .u32 ((c : Int) / 16) (Crc.step4 i : Nat) = (m : Int) ∧
     bits .and .u32 (bits .xor .u32 (m : Int) ((b : Int) / 16)) 15 = (j : Int) ∧ w.cell? ⟨g, j, none⟩ = some (.int .u32 (Crc.step4 j : Nat)) ∧
     bits .xor .u32 ((m : Int) / 16) (Crc.step4 j : Nat) = ((m / 16 ^^^ Crc.step4 j : Nat) : Int) ∧
     m = c / 16 ^^^ Crc.step4 i ∧ i = (c ^^^ b) % 16 ∧ j = (m ^^^ b / 16) % 16 := by
 have s4 : ∀ x : Nat, Crc.step4 (x % 16) < 4294967296 := fun x => Crc.step4_lt (by omega)
 have rd : ∀ x : Nat, w.cell? ⟨g, x % 16, none⟩ = some (.int .u32 (Crc.step4 (x % 16) : Nat)) := fun x => by
   rw [hb.cell, tab_at _ (by omega)]
 have hm : c / 16 ^^^ Crc.step4 ((c ^^^ b) % 16) < 4294967296 := Crc.xor_lt (by omega) (s4 _)
 refine ⟨_, _, _, hm, by omega, ?_, ?_, rd _, ?_, ?_, rd _, ?_, rfl, rfl, rfl⟩
 · omega
 · rw [xor_u32 hc (by omega), and_15 _ (Crc.xor_lt hc (by omega))]
 · exact xor_u32 (a := c / 16) (by omega) (s4 _)
 · generalize c / 16 ^^^ Crc.step4 ((c ^^^ b) % 16) = m at hm ⊢
   have e := xor_u32 (a := m) (b := b / 16) hm (by omega)
   rw [show ((b / 16 : Nat) : Int) = (b : Int) / 16 from by omega] at e
   rw [e, and_15 _ (Crc.xor_lt hm (by omega))]
 · generalize c / 16 ^^^ Crc.step4 ((c ^^^ b) % 16) = m at hm ⊢
   exact xor_u32 (a := m / 16) (by omega) (s4 _)
set_option maxRecDepth 100000 in
set_option maxHeartbeats 1000000 in
theorem sum_any (s : ByteArray) (w : World) (hs : s.size ≤ maxLen) :
   Calls Tryz.prog 167 #[.string s] w fun e w' => e = .returned (.int .u32 (Crc.sum s.data.toList : Nat)) ∧ Below w.heap.size w w' := by
 unfold maxLen at hs
 go_enter Tryz.func167, Tryz.ntmps167
 go_wp2_with (first
   | (go_at_call 169; refine (halfSteps_any _).mono ?_; rintro e w1 ⟨rfl, hb⟩)
   | (refine wpList_store_row rfl 225 _ _ rfl _ _ rfl rfl 225 _ (Blk.new _ _ _) (by rw [tab_size]; kernel_rfl) (by rw [tab_size]; rfl) (by decide +kernel) ?_))
 have hk : Blk ((w1.alloc (.cells #[Value.int .u32 0, .int .u32 0, .int .u32 0, .int .u32 0, .int .u32 0, .int .u32 0, .int .u32 0, .int .u32 0, .int .u32 0, .int .u32 0, .int .u32 0, .int .u32 0, .int .u32 0, .int .u32 0, .int .u32 0, .int .u32 0] 225)).setRow w1.heap.size (tab 16)) w1.heap.size 225 (tab 16) := (Blk.new _ _ _).setRow _
 have hB : Below w.heap.size w ((w1.alloc (.cells #[Value.int .u32 0, .int .u32 0, .int .u32 0, .int .u32 0, .int .u32 0, .int .u32 0, .int .u32 0, .int .u32 0, .int .u32 0, .int .u32 0, .int .u32 0, .int .u32 0, .int .u32 0, .int .u32 0, .int .u32 0, .int .u32 0] 225)).setRow w1.heap.size (tab 16)) := below_setRow (hb.alloc hb.size _) hb.size _
 generalize (w1.alloc _).setRow w1.heap.size (tab 16) = w2 at *
 generalize w1.heap.size = g at *
 go_loop [4, 10] (fun n i => ∃ k : Nat, k ≤ s.size ∧ i = .int .i64 k ∧ n = .int .u32 (crcTo s k : Nat)) (fun _ i => s.size - (intOf i).toNat)
 case atStart => exact ⟨0, Nat.zero_le _, rfl, rfl⟩
 case round =>
   obtain ⟨k, hk', rfl, rfl⟩ := hrel
   have hl := crcTo_lt s k
   have hL := Lib.hid hl
   by_cases hlt : k < s.size
   · have hbyte : (s[k].toNat : Int) < 256 := by have := s[k].toNat_lt; omega
     obtain ⟨m, i, j, hm, hi, hj, e1, e2, e3, e4, e5, e6, em, ei, ej⟩ := byte_reads hk hl s[k].toNat_lt
     have hS : Hid (m / 16 ^^^ Crc.step4 j = crcTo s (k + 1)) := by
       show _ = _
       rw [crcTo_succ s k hlt, Crc.byteStep_halves, ej, em, ei]
     clear hl em hm ei ej
     go_wp2
     go_round
     case rel => exact ⟨k + 1, by omega, by go_num, by rw [hS.out]⟩
     case measure => simp [intOf]; omega
   · clear hl
     obtain rfl : k = s.size := by omega
     have hn := Lib.hid (not_u32 hL.out)
     have hf := Lib.hid (show crcTo s s.size = Crc.run 4294967295 s.data.toList by unfold crcTo; rw [List.take_of_length_le (by simp)])
     go_wp2
     go_ret
     exact ⟨by rw [hn.out, hf.out]; rfl, hB⟩
end Go.Proofs.YtbplgbkbggmaeaaGreat

namespace Go.Proofs.YtbplgbkbggmaeaaGreat
open Go.RowKit
def le4 (n : Nat) : List UInt8 := [UInt8.ofNat n, UInt8.ofNat (n / 256), UInt8.ofNat (n / 65536), UInt8.ofNat (n / 16777216)]
set_option maxRecDepth 100000 in
set_option maxHeartbeats 1000000 in
theorem putHigh_any (g off len cap t n : Nat) (l : List UInt8) (w : World) (hn : n < 4294967296) (hb : Blk w g t (bytesV l)) (ho : off + 4 ≤ l.length) (h4 : 4 ≤ len) (hm : len ≤ 9223372036854775807) :
   Calls Tryz.prog 165 #[.slice (some ⟨g, off, none⟩) len cap, .int .u32 n] w fun e w' => e = .returned (.tuple #[]) ∧ w.grownBy w' (some g) ∧ Blk w' g t (bytesV (splice l off (be4 n))) := by
 have hN := Lib.hid hn
 clear hn
 have cell : ∀ (w : World) (l : List UInt8) (i : Nat), Blk w g t (bytesV l) → i < l.length → ∃ v, w.cell? ⟨g, i, none⟩ = some v := fun w l i hb hi => ⟨_, hb.cellAt (by rw [bytesV_size]; exact hi)⟩
 go_enter Tryz.func165, Tryz.ntmps165
 go_wp2
 refine wp_loop_rounds 5 ?_
 rw [rounds_succ]
 obtain ⟨v0, c0⟩ := cell _ _ off hb (by (try simp only [List.length_set]); omega)
 have f0 := hb.frozen off
 have hb0 := hb.setB off (n / 16777216) ((n : Int) / 16777216 % 256) (by omega)
 go_wp2
 rw [rounds_succ]
 obtain ⟨v1, c1⟩ := cell _ _ (off + 1) hb0 (by (try simp only [List.length_set]); omega)
 have f1 := hb0.frozen (off + 1)
 have hb1 := hb0.setB (off + 1) (n / 65536) ((n : Int) / 65536 % 256) (by omega)
 go_wp2
 rw [rounds_succ]
 obtain ⟨v2, c2⟩ := cell _ _ (off + 2) hb1 (by (try simp only [List.length_set]); omega)
 have f2 := hb1.frozen (off + 2)
 have hb2 := hb1.setB (off + 2) (n / 256) ((n : Int) / 256 % 256) (by omega)
 go_wp2
 rw [rounds_succ]
 obtain ⟨v3, c3⟩ := cell _ _ (off + 3) hb2 (by (try simp only [List.length_set]); omega)
 have f3 := hb2.frozen (off + 3)
 have hb3 := hb2.setB (off + 3) (n) ((n : Int) % 256) (by omega)
 go_wp2
 rw [rounds_succ]
 go_wp2
 go_end0
 refine ⟨rfl, ?_, ?_⟩
 · exact grown_trans' (grown_trans' (grown_trans' (grown_set _ _ _ _) (grown_set _ _ _ _)) (grown_set _ _ _ _)) (grown_set _ _ _ _)
 · rw [be4, ← set4 _ _ _ _ _ _ ho]
   exact hb3
set_option maxRecDepth 100000 in
set_option maxHeartbeats 1000000 in
theorem putLow_any (g off len cap t n : Nat) (l : List UInt8) (w : World) (hn : n < 4294967296) (hb : Blk w g t (bytesV l)) (ho : off + 4 ≤ l.length) (h4 : 4 ≤ len) (hm : len ≤ 9223372036854775807) :
   Calls Tryz.prog 166 #[.slice (some ⟨g, off, none⟩) len cap, .int .u32 n] w fun e w' => e = .returned (.tuple #[]) ∧ w.grownBy w' (some g) ∧ Blk w' g t (bytesV (splice l off (le4 n))) := by
 have hN := Lib.hid hn
 clear hn
 have cell : ∀ (w : World) (l : List UInt8) (i : Nat), Blk w g t (bytesV l) → i < l.length → ∃ v, w.cell? ⟨g, i, none⟩ = some v := fun w l i hb hi => ⟨_, hb.cellAt (by rw [bytesV_size]; exact hi)⟩
 go_enter Tryz.func166, Tryz.ntmps166
 go_wp2
 refine wp_loop_rounds 5 ?_
 rw [rounds_succ]
 obtain ⟨v0, c0⟩ := cell _ _ off hb (by (try simp only [List.length_set]); omega)
 have f0 := hb.frozen off
 have hb0 := hb.setB off (n) ((n : Int) % 256) (by omega)
 go_wp2
 rw [rounds_succ]
 obtain ⟨v1, c1⟩ := cell _ _ (off + 1) hb0 (by (try simp only [List.length_set]); omega)
 have f1 := hb0.frozen (off + 1)
 have hb1 := hb0.setB (off + 1) (n / 256) ((n : Int) / 256 % 256) (by omega)
 go_wp2
 rw [rounds_succ]
 obtain ⟨v2, c2⟩ := cell _ _ (off + 2) hb1 (by (try simp only [List.length_set]); omega)
 have f2 := hb1.frozen (off + 2)
 have hb2 := hb1.setB (off + 2) (n / 65536) ((n : Int) / 65536 % 256) (by omega)
 go_wp2
 rw [rounds_succ]
 obtain ⟨v3, c3⟩ := cell _ _ (off + 3) hb2 (by (try simp only [List.length_set]); omega)
 have f3 := hb2.frozen (off + 3)
 have hb3 := hb2.setB (off + 3) (n / 16777216) ((n : Int) / 16777216 % 256) (by omega)
 go_wp2
 rw [rounds_succ]
 go_wp2
 go_end0
 refine ⟨rfl, ?_, ?_⟩
 · exact grown_trans' (grown_trans' (grown_trans' (grown_set _ _ _ _) (grown_set _ _ _ _)) (grown_set _ _ _ _)) (grown_set _ _ _ _)
 · rw [le4, ← set4 _ _ _ _ _ _ ho]
   exact hb3
set_option maxRecDepth 100000 in
set_option maxHeartbeats 1000000 in
theorem getHigh_any (s : ByteArray) (w : World) (h4 : 4 ≤ s.size) :
   Calls Tryz.prog 146 #[.string s] w fun e w' => e = .returned (.int .u32 (num4 s.data.toList : Nat)) ∧ Below w.heap.size w w' := by
 have b0 : (s[0].toNat : Int) < 256 := by have := s[0].toNat_lt; omega
 have b1 : (s[1].toNat : Int) < 256 := by have := s[1].toNat_lt; omega
 have b2 : (s[2].toNat : Int) < 256 := by have := s[2].toNat_lt; omega
 have b3 : (s[3].toNat : Int) < 256 := by have := s[3].toNat_lt; omega
 have i0 : 0 < s.size := by omega
 have i1 : (1 : Int) < s.size := by omega
 have i2 : (2 : Int) < s.size := by omega
 have i3 : (3 : Int) < s.size := by omega
 have hr := or_be (s[0].toNat) (s[1].toNat) (s[2].toNat) (s[3].toNat) s[0].toNat_lt s[1].toNat_lt s[2].toNat_lt s[3].toNat_lt
 have hr' := Lib.hid hr
 clear hr
 go_enter Tryz.func146, Tryz.ntmps146
 go_wp2
 refine wp_loop_rounds 5 ?_
 rw [rounds_succ]
 go_wp2
 rw [rounds_succ]
 go_wp2
 rw [rounds_succ]
 go_wp2
 rw [rounds_succ]
 go_wp2
 rw [rounds_succ]
 go_wp2
 go_ret
 refine ⟨?_, Below.refl _ _⟩
 rw [hr'.out, num4, getD_at s 0 (by omega), getD_at s 1 (by omega), getD_at s 2 (by omega), getD_at s 3 (by omega)]
 rfl
end Go.Proofs.YtbplgbkbggmaeaaGreat

namespace Go.Proofs.YtbplgbkbggmaeaaGreat
open Go.RowKit
structure Packing (w W : World) (E I : Nat) (s : ByteArray) (l : List UInt8) : Prop where
 below : Below w.heap.size w W
 box : Blk W w.heap.size 138 #[.int .u32 E, .int .u32 I, .string s]
 row : Blk W (w.heap.size + 1) 155 (bytesV l)
namespace Packing
variable {w W W' : World} {E I : Nat} {s : ByteArray} {l l' : List UInt8}
theorem start : Packing w ((w.alloc (.cells #[.int .u32 E, .int .u32 I, .string s] 138)).alloc (.cells (bytesV l) 155)) E I s l := by
 refine ⟨((Below.refl _ _).alloc (Nat.le_refl _) _).alloc (by simp) _, (Blk.new _ _ _).alloc _, ?_⟩
 have h := Blk.new (w.alloc (.cells #[.int .u32 E, .int .u32 I, .string s] 138)) 155 (bytesV l)
 simp only [World.size_alloc] at h
 exact h
theorem drew (h : Packing w W E I s l) : Packing w W.drew E I s l := ⟨h.below.drew, h.box, h.row⟩
theorem c0 (h : Packing w W E I s l) : W.cell? ⟨w.heap.size, 0, none⟩ = some (.int .u32 E) := h.box.cellAt (by simp)
theorem c1 (h : Packing w W E I s l) : W.cell? ⟨w.heap.size, 1, none⟩ = some (.int .u32 I) := h.box.cellAt (by simp)
theorem c2 (h : Packing w W E I s l) : W.cell? ⟨w.heap.size, 2, none⟩ = some (.string s) := h.box.cellAt (by simp)
theorem grown (h : Packing w W E I s l) (hg : W.grownBy W' (some (w.heap.size + 1))) (hr : Blk W' (w.heap.size + 1) 155 (bytesV l')) : Packing w W' E I s l' :=
 ⟨h.below.grown hg h.below.size (fun k hk => by simp at hk; omega), (hg.block _ h.box.lt (by simp)).trans h.box, hr⟩
theorem copied (h : Packing w W E I s l) (l' : List UInt8) : Packing w (W.setRow (w.heap.size + 1) (bytesV l')) E I s l' :=
 ⟨below_setRow h.below (by omega) _, h.box.farRow (by omega) _, h.row.setRow _⟩
theorem more (h : Packing w W E I s l) (hb : Below W.heap.size W W') : Packing w W' E I s l :=
 ⟨below2 h.below hb, h.box.keep hb h.box.lt, h.row.keep hb h.row.lt⟩
end Packing
def sect0 (E I : Nat) (s : ByteArray) : List UInt8 :=
 splice (splice (splice (splice (List.replicate 128 0) 0 (be4 E)) 4 (be4 I)) 8 (be4 (s.size * 65536))) 12 s.data.toList
def sect (E I : Nat) (s : ByteArray) : List UInt8 := splice (sect0 E I s) 124 (le4 (Crc.sum ((sect0 E I s).take 124)))
theorem le4_len (n : Nat) : (le4 n).length = 4 := rfl
theorem len_splice {l c : List UInt8} {o : Nat} (h : o + c.length ≤ l.length) : (splice l o c).length = l.length := length_splice l o c h
theorem sect0_len (E I : Nat) (s : ByteArray) (hl : s.size ≤ 112) : (sect0 E I s).length = 128 := by
 unfold sect0
 rw [len_splice, len_splice, len_splice, len_splice, List.length_replicate]
 · rw [be4_len, List.length_replicate]; omega
 · rw [be4_len, len_splice, List.length_replicate] <;> (try rw [be4_len, List.length_replicate]) <;> omega
 · rw [be4_len, len_splice, len_splice, List.length_replicate] <;> (try rw [be4_len]) <;> (try rw [len_splice]) <;> (try rw [be4_len]) <;> (try rw [List.length_replicate]) <;> omega
 · rw [size_bytes, len_splice, len_splice, len_splice, List.length_replicate] <;> (try rw [be4_len]) <;> (try rw [len_splice]) <;> (try rw [len_splice]) <;> (try rw [be4_len]) <;> (try rw [List.length_replicate]) <;> (try omega)
   all_goals (rw [be4_len, List.length_replicate]; omega)
theorem sect_len (E I : Nat) (s : ByteArray) (hl : s.size ≤ 112) : (sect E I s).length = 128 := by
 unfold sect
 rw [len_splice] <;> rw [sect0_len E I s hl]
 rw [le4_len]; omega
set_option maxRecDepth 100000 in
set_option maxHeartbeats 2000000 in
theorem pack_any (E I : Nat) (s : ByteArray) (w : World) (hE : E < 4294967296) (hI : I < 4294967296) (hl : s.size ≤ 112) :
   Calls Tryz.prog 147 #[.agg #[.int .u32 E, .int .u32 I, .string s]] w fun e w' => e = .returned (.tuple #[.string ⟨(sect E I s).toArray⟩, .int .i64 0]) ∧ Below w.heap.size w w' := by
 have hz := zero_run
 have L0 : 128 ≤ (List.replicate 128 (0 : UInt8)).length := by simp
 have HR : Hid (sect E I s = splice (splice (splice (splice (splice (List.replicate 128 0) 0 (be4 E)) 4 (be4 I)) 8 (be4 (s.size * 65536))) 12 s.data.toList) 124 (le4 (Crc.sum ((splice (splice (splice (splice (List.replicate 128 0) 0 (be4 E)) 4 (be4 I)) 8 (be4 (s.size * 65536))) 12 s.data.toList).take 124)))) := rfl
 generalize List.replicate 128 (0 : UInt8) = l at *
 have L1 : 128 ≤ (splice l 0 (be4 E)).length := by rw [len_splice (by rw [be4_len]; omega)]; exact L0
 have L2 : 128 ≤ (splice (splice l 0 (be4 E)) 4 (be4 I)).length := by rw [len_splice (by rw [be4_len]; omega)]; exact L1
 have L3 : 128 ≤ (splice (splice (splice l 0 (be4 E)) 4 (be4 I)) 8 (be4 (s.size * 65536))).length := by rw [len_splice (by rw [be4_len]; omega)]; exact L2
 have L4 : 128 ≤ (splice (splice (splice (splice l 0 (be4 E)) 4 (be4 I)) 8 (be4 (s.size * 65536))) 12 s.data.toList).length := by rw [len_splice (by rw [size_bytes]; omega)]; exact L3
 go_enter Tryz.func147, Tryz.ntmps147
 go_wp2
 have hp := Packing.start (w := w) (E := E) (I := I) (s := s) (l := l)
 generalize ((w.alloc (.cells #[.int .u32 E, .int .u32 I, .string s] 138)).alloc (.cells (bytesV l) 155)) = w1 at *
 have c := hp.c0
 go_still_tail 3, (by kernel_rfl)
 change wpList _ _ _ _ _ w1.drew
 replace hp := hp.drew
 clear c
 generalize w1.drew = w2 at *
 go_wp2_with fail
 refine (putHigh_any (w.heap.size + 1) 0 128 128 _ E l _ hE hp.row (by omega) (by omega) (by omega)).mono ?_
 rintro e w3 ⟨rfl, hg, hb⟩
 replace hp := hp.grown hg hb
 clear hg hb
 have c := hp.c1
 go_wp2_with fail
 go_still_tail 3, (by kernel_rfl)
 change wpList _ _ _ _ _ w3.drew
 replace hp := hp.drew
 clear c
 generalize w3.drew = w4 at *
 go_wp2_with fail
 refine (putHigh_any (w.heap.size + 1) 4 124 124 _ I _ _ hI hp.row (by omega) (by omega) (by omega)).mono ?_
 rintro e w5 ⟨rfl, hg, hb⟩
 replace hp := hp.grown hg hb
 clear hg hb
 have c := hp.c2
 go_wp2_with fail
 go_still_tail 6, (by kernel_rfl)
 change wpList _ _ _ _ _ w5.drew
 replace hp := hp.drew
 clear c
 generalize w5.drew = w6 at *
 go_wp2_with fail
 rw [show (s.size : Int) * 65536 = ((s.size * 65536 : Nat) : Int) from by omega]
 refine (putHigh_any (w.heap.size + 1) 8 120 120 _ (s.size * 65536) _ _ (by omega) hp.row (by omega) (by omega) (by omega)).mono ?_
 rintro e w7 ⟨rfl, hg, hb⟩
 replace hp := hp.grown hg hb
 clear hg hb
 have c := hp.c2
 go_wp2_with fail
 go_still_tail 3, (by kernel_rfl)
 change wpList _ _ _ _ _ w7.drew
 replace hp := hp.drew
 clear c
 generalize w7.drew = w8 at *
 have hcp := Lib.run_copy_row_string (P := Tryz.prog) w8 136 9 3 5 (w.heap.size + 1) 12 116 116 s _ 155 Tryz.underlying136 info_u8 hp.row (by omega) (by rw [bytesV_size]; omega)
 rw [← size_bytes s, bytesV_splice, size_bytes s] at hcp
 go_wp2_with fail
 clear hcp
 replace hp := hp.copied (splice (splice (splice (splice l 0 (be4 E)) 4 (be4 I)) 8 (be4 (s.size * 65536))) 12 s.data.toList)
 generalize w8.setRow _ _ = w9 at *
 generalize splice (splice (splice (splice l 0 (be4 E)) 4 (be4 I)) 8 (be4 (s.size * 65536))) 12 s.data.toList = l4 at *
 have hsz : (⟨(List.take 124 l4).toArray⟩ : ByteArray).size ≤ maxLen := by
   show (List.take 124 l4).toArray.size ≤ maxLen
   simp [maxLen]; omega
 have hcv := conv_blk hp.drew.row 0 124 128 (by omega) 136 5 9 Tryz.underlying136 Tryz.underlying5 Tryz.underlying9
 go_region_with (first
   | (go_at_call 167; refine (sum_any _ _ hsz).mono ?_; rintro e w10 ⟨rfl, hb10⟩)
   | (go_at_call 166; refine (putLow_any (w.heap.size + 1) 124 4 4 _ _ _ _ (Crc.sum_lt _) (hp.drew.more hb10).row (by omega) (by omega) (by omega)).mono ?_; rintro e w11 ⟨rfl, hg, hb⟩))
 replace hp := (hp.drew.more hb10).grown hg hb
 have hS := hp.row
 rw [← HR.out] at hS
 have hcv2 := conv_blk hS 0 128 128 (by rw [sect_len E I s hl]; omega) 136 5 9 Tryz.underlying136 Tryz.underlying5 Tryz.underlying9
 go_wp2
 go_ret2
 refine ⟨?_, hp.below⟩
 show Ending.returned (.tuple #[.string ⟨(List.take 128 (sect E I s)).toArray⟩, .int .i64 0]) = _
 rw [List.take_of_length_le (by rw [sect_len E I s hl]; omega)]
end Go.Proofs.YtbplgbkbggmaeaaGreat

namespace Go.Proofs.YtbplgbkbggmaeaaGreat
open Go.RowKit
theorem splice_app {α : Type} (p x q c : List α) (n : Nat) (hn : p.length = n) (h : x.length = c.length) : splice (p ++ x ++ q) n c = p ++ c ++ q := by
 subst hn
 unfold splice
 rw [List.append_assoc, List.take_left' rfl, ← List.append_assoc p x q, List.drop_left' (by simp [h]), ← List.append_assoc]
def front (E I : Nat) (s : ByteArray) : List UInt8 := be4 E ++ be4 I ++ [0, UInt8.ofNat s.size, 0, 0] ++ s.data.toList ++ List.replicate (112 - s.size) 0
theorem front_len (E I : Nat) (s : ByteArray) (h : s.size ≤ 112) : (front E I s).length = 124 := by
 unfold front
 simp only [List.length_append, be4_len, size_bytes, List.length_replicate, List.length_cons, List.length_nil]
 omega
theorem be4_size (n : Nat) (h : n ≤ 112) : be4 (n * 65536) = [0, UInt8.ofNat n, 0, 0] := by
 have e1 : UInt8.ofNat (n * 65536 / 16777216) = 0 := by rw [show n * 65536 / 16777216 = 0 from by omega]; rfl
 have e2 : n * 65536 / 65536 = n := by omega
 have e3 : UInt8.ofNat (n * 65536 / 256) = 0 := by
   apply UInt8.toNat_inj.1
   simp <;> omega
 have e4 : UInt8.ofNat (n * 65536) = 0 := by
   apply UInt8.toNat_inj.1
   simp <;> omega
 unfold be4
 rw [e1, e2, e3, e4]
theorem sect0_eq (E I : Nat) (s : ByteArray) (h : s.size ≤ 112) : sect0 E I s = front E I s ++ List.replicate 4 0 := by
 unfold sect0 front
 have r1 : List.replicate 128 (0 : UInt8) = [] ++ List.replicate 4 0 ++ (List.replicate 4 0 ++ (List.replicate 4 0 ++ (List.replicate s.size 0 ++ (List.replicate (112 - s.size) 0 ++ List.replicate 4 0)))) := by
   simp only [List.replicate_append_replicate, List.nil_append]
   congr 1
   omega
 have r2 : ∀ (p x q : List UInt8), p ++ (x ++ q) = p ++ x ++ q := fun p x q => (List.append_assoc _ _ _).symm
 rw [r1, splice_app [] _ _ (be4 E) 0 rfl (by simp [be4_len]), r2, splice_app _ _ _ (be4 I) 4 (by simp [be4_len]) (by simp [be4_len]), r2,
   splice_app _ _ _ (be4 (s.size * 65536)) 8 (by simp [be4_len]) (by simp [be4_len]), r2, splice_app _ _ _ s.data.toList 12 (by simp [be4_len]) (by simp), be4_size _ h]
 simp
theorem sect_eq (E I : Nat) (s : ByteArray) (h : s.size ≤ 112) : sect E I s = front E I s ++ le4 (Crc.sum (front E I s)) := by
 unfold sect
 rw [sect0_eq E I s h, List.take_left' (front_len E I s h)]
 have := splice_app (front E I s) (List.replicate 4 0) [] (le4 (Crc.sum (front E I s))) 124 (front_len E I s h) (by simp [le4_len])
 simpa using this
end Go.Proofs.YtbplgbkbggmaeaaGreat

namespace Go.Proofs.YtbplgbkbggmaeaaGreat
open Go.RowKit
theorem i64_or (a b : Nat) (ha : a < 256) (hb : b < 256) : bits .or .i64 ((a : Int) * 256) (b : Int) = ((a * 256 + b : Nat) : Int) := by
 have h := (bits_nat .i64 62 (by decide) (fun n h0 h1 => by rw [IntKind.wrap_i64]; omega) (a * 256) b (by omega) (by omega)).2
 rw [show (a : Int) * 256 = ((a * 256 : Nat) : Int) from by omega, h]
 congr 1
 have := Nat.shiftLeft_add_eq_or_of_lt (b := b) (i := 8) (by omega) a
 rw [Nat.shiftLeft_eq] at this
 exact this.symm
def partE (s : ByteArray) : Nat := num4 s.data.toList
def partI (s : ByteArray) : Nat := num4 (s.data.toList.drop 4)
def partN (s : ByteArray) : Nat := (s.data.toList.getD 9 0).toNat
def partB (s : ByteArray) : ByteArray := s.extract 12 (12 + partN s)
def IsSlab (s : ByteArray) : Prop := s.size = 128 ∧ s.data.toList.getD 8 0 = 0 ∧ partN s ≤ 112 ∧ sect (partE s) (partI s) (partB s) = s.data.toList
def slabV (E I : Nat) (b : ByteArray) : Value := .agg #[.int .u32 E, .int .u32 I, .string b]
def noSlab : Value := .agg #[.int .u32 0, .int .u32 0, .string ⟨#[]⟩]
theorem num4_lt (l : List UInt8) : num4 l < 4294967296 := by
 unfold num4
 have a := (l.getD 0 0).toNat_lt
 have b := (l.getD 1 0).toNat_lt
 have c := (l.getD 2 0).toNat_lt
 have d := (l.getD 3 0).toNat_lt
 omega
set_option maxRecDepth 100000 in
set_option maxHeartbeats 2000000 in
theorem unpack_size (s : ByteArray) (w : World) (h : s.size ≠ 128) :
   Calls Tryz.prog 116 #[.string s] w fun e w' => e = .returned (.tuple #[noSlab, .int .i64 8]) ∧ Below w.heap.size w w' := by
 have h1 : ((s.size : Int) != 128) = true := by simp; omega
 go_enter Tryz.func116, Tryz.ntmps116
 go_wp2
 exact bodyPost_ret (results_row_tmp rfl _ _ w.heap.size 138 _ _ rfl (Blk.new _ _ _) Tryz.underlying138 rfl (by kernel_rfl)) rfl ⟨rfl, (Below.refl _ _).alloc (Nat.le_refl _) _⟩
set_option maxRecDepth 100000 in
set_option maxHeartbeats 2000000 in
theorem unpack_len (s : ByteArray) (w : World) (h : Hid (s.size = 128)) (h8 : 8 < s.size) (h9 : 9 < s.size) (hn : 112 < s[8].toNat * 256 + s[9].toNat) :
   Calls Tryz.prog 116 #[.string s] w fun e w' => e = .returned (.tuple #[noSlab, .int .i64 8]) ∧ Below w.heap.size w w' := by
 have h1 : ((s.size : Int) != 128) = false := by simp [h.out]
 have i8 : (8 : Int) < s.size := by omega
 have i9 : (9 : Int) < s.size := by omega
 have b8 : (s[8].toNat : Int) < 256 := by have := s[8].toNat_lt; omega
 have b9 : (s[9].toNat : Int) < 256 := by have := s[9].toNat_lt; omega
 have ho := i64_or s[8].toNat s[9].toNat s[8].toNat_lt s[9].toNat_lt
 have hgt : (112 : Int) < ((s[8].toNat * 256 + s[9].toNat : Nat) : Int) := by omega
 generalize s[8].toNat * 256 + s[9].toNat = n at *
 go_enter Tryz.func116, Tryz.ntmps116
 go_wp2
 go_region
 all_goals
   go_wp2
   exact bodyPost_ret (results_row_tmp rfl _ _ w.heap.size 138 _ _ rfl (Blk.drew (Blk.new _ _ _)) Tryz.underlying138 rfl (by kernel_rfl)) rfl ⟨rfl, ((Below.refl _ _).alloc (Nat.le_refl _) _).drew⟩
set_option maxRecDepth 100000 in
set_option maxHeartbeats 4000000 in
theorem unpack_rest (s : ByteArray) (w : World) (h : Hid (s.size = 128)) (h8 : 8 < s.size) (h9 : 9 < s.size) (n : Nat) (hn : Hid (n = s[8].toNat * 256 + s[9].toNat)) (hle : n ≤ 112) (yes : Bool)
   (hyes : (sect (partE s) (partI s) (s.extract 12 (12 + n)) = s.data.toList) ↔ yes = true) :
   Calls Tryz.prog 116 #[.string s] w fun e w' => e = .returned (.tuple (if yes then #[slabV (partE s) (partI s) (s.extract 12 (12 + n)), .int .i64 0] else #[noSlab, .int .i64 8])) ∧ Below w.heap.size w w' := by
 have h1 : ((s.size : Int) != 128) = false := by simp [h.out]
 have i8 : (8 : Int) < s.size := by omega
 have i9 : (9 : Int) < s.size := by omega
 have b8 : (s[8].toNat : Int) < 256 := by have := s[8].toNat_lt; omega
 have b9 : (s[9].toNat : Int) < 256 := by have := s[9].toNat_lt; omega
 have ho := i64_or s[8].toNat s[9].toNat s[8].toNat_lt s[9].toNat_lt
 rw [← hn.out] at ho
 have hsz : 128 ≤ s.size := by rw [h.out]; omega
 go_enter Tryz.func116, Tryz.ntmps116
 go_wp2
 go_region
 go_wp2
 have hsl := slice_str (P := Tryz.prog) 9 Tryz.underlying9 s 12 (12 + n) .i64 .i64 12 (12 + (n : Int)) (by omega) (by omega) (by omega) (by omega)
 have hx4 : 4 ≤ (s.extract 4 s.size).size := by rw [ByteArray.size_extract]; omega
 have hx12 : (s.extract 12 (12 + n)).size ≤ 281474976710656 := by rw [ByteArray.size_extract]; omega
 have hr0 := Blk.drew (Blk.new w 138 #[.int .u32 0, .int .u32 0, .string ⟨#[]⟩])
 have hB0 := ((Below.refl w.heap.size w).alloc (Nat.le_refl _) (.cells #[.int .u32 0, .int .u32 0, .string ⟨#[]⟩] 138)).drew
 generalize hg : w.heap.size = g at *
 have hG := Lib.hid hg
 clear hg
 generalize (w.alloc (.cells #[.int .u32 0, .int .u32 0, .string ⟨#[]⟩] 138)).drew = w1 at *
 refine' wp_region_conf 13 [.is _, .is _, .is _, .is _, .is _, .is _, .is _, .is _, .is _, .is _, .is _, .is _, .ptr w1.heap.size 138 #[.int .u32 0, .int .u32 0, .string ⟨#[]⟩]] (by kernel_rfl) (by kernel_rfl) (by kernel_rfl) (by kernel_rfl) rfl ?main
 case main =>
   iterate 2
     refine obs_is (fun w2 hE2 _ => ?_) ?_
     · go_wp2
       exact post_is (Below.refl _ _)
     simp only [Act.put, sA, sB, sC]
   refine obs_is (fun w2 hE2 _ => ?_) ?_
   · go_wp2_with fail
     refine (getHigh_any s _ (by omega)).mono ?_
     rintro e w3 ⟨rfl, hb3⟩
     go_wp2
     exact post_is hb3
   simp only [Act.put, sA, sB, sC]
   iterate 2
     refine obs_is (fun w2 hE2 _ => ?_) ?_
     · go_wp2
       exact post_is (Below.refl _ _)
     simp only [Act.put, sA, sB, sC]
   refine obs_is (fun w2 hE2 _ => ?_) ?_
   · go_wp2_with fail
     refine (getHigh_any (s.extract 4 s.size) _ hx4).mono ?_
     rintro e w3 ⟨rfl, hb3⟩
     go_wp2
     exact post_is hb3
   simp only [Act.put, sA, sB, sC]
   iterate 4
     refine obs_is (fun w2 hE2 _ => ?_) ?_
     · go_wp2
       exact post_is (Below.refl _ _)
     simp only [Act.put, sA, sB, sC]
   refine obs_is (fun w2 hE2 _ => ?_) ?_
   · go_wp2_with fail
     refine (cloneS_any (s.extract 12 (12 + n)) _ hx12).mono ?_
     rintro e w3 ⟨rfl, hb3⟩
     go_wp2
     exact post_is hb3
   simp only [Act.put, sA, sB, sC]
   iterate 1
     refine obs_is (fun w2 hE2 _ => ?_) ?_
     · go_wp2
       exact post_is (Below.refl _ _)
     simp only [Act.put, sA, sB, sC]
   refine obs_ptr (fun w2 hE2 _ => ?_) (fun x => ?_)
   · go_wp2
     exact ⟨_, rfl, ⟨w2.heap.size, hE2.size, rfl, Blk.new _ _ _⟩, (Below.refl _ _).alloc (Nat.le_refl _) _⟩
   simp only [Act.put, sA, sB, sC]
   refine obs_end fun w3 hE3 hk => ?_
   obtain ⟨g2, hg2, rfl, hb2⟩ := hk _ (List.mem_cons_self)
   clear hk
   have hB3 : Below w.heap.size w w3 := by rw [hG.out]; exact hB0.drew.trans (hE3.mono (show g ≤ w1.heap.size by rw [← hG.out]; exact hB0.size))
   have hr3 := hr0.drew.keep hE3 hr0.lt
   have hne : g ≠ g2 := by
     have := hr0.lt
     omega
   rw [show List.take (s.size - 4) (List.drop 4 s.data.toList) = List.drop 4 s.data.toList from List.take_of_length_le (by simp)]
   refine wpList_store_row rfl 138 _ _ rfl g2 (#[.int .u32 (num4 s.data.toList : Nat), .int .u32 (num4 (s.data.toList.drop 4) : Nat), .string (s.extract 12 (12 + n))]) rfl rfl 138 _ hb2 (by kernel_rfl) (by simp) (by simp [Value.oneCell']) ?_
   replace hb2 := hb2.setRow #[.int .u32 (num4 s.data.toList : Nat), .int .u32 (num4 (s.data.toList.drop 4) : Nat), .string (s.extract 12 (12 + n))]
   replace hr3 := hr3.farRow hne #[.int .u32 (num4 s.data.toList : Nat), .int .u32 (num4 (s.data.toList.drop 4) : Nat), .string (s.extract 12 (12 + n))]
   replace hB3 := below_setRow hB3 (g := g2) (by rw [hG.out]; have := hB0.size; rw [hG.out] at this; omega) #[.int .u32 (num4 s.data.toList : Nat), .int .u32 (num4 (s.data.toList.drop 4) : Nat), .string (s.extract 12 (12 + n))]
   simp only [Act.put]
   generalize w3.setRow g2 _ = w4 at *
   have c0 := hb2.cellAt (i := 0) (by simp)
   have c1 := hb2.cellAt (i := 1) (by simp)
   have c2 := hb2.cellAt (i := 2) (by simp)
   simp at c0 c1 c2
   go_wp2_with fail
   refine (pack_any _ _ _ _ (num4_lt _) (num4_lt _) (by rw [ByteArray.size_extract]; omega)).mono ?_
   rintro e w5 ⟨rfl, hb5⟩
   have htest : (sect (num4 s.data.toList) (num4 (List.drop 4 s.data.toList)) (s.extract 12 (12 + n)) == s.toList) = yes := by
     rw [Bool.eq_iff_iff, beq_iff_eq, ByteArray.toList_eq]
     exact hyes
   have hr5 := hr3.keep hb5 hr3.lt
   have hx5 := hb2.keep hb5 hb2.lt
   have hB5 := below2 hB3 hb5
   clear c0 c1 c2 hyes
   cases yes
   · go_wp2_with (refine wpList_store_row rfl 138 _ _ rfl g _ rfl rfl 138 _ hr5 (by kernel_rfl) (by simp) (by simp [Value.oneCell']) ?_)
     refine bodyPost_ret (results_row_tmp rfl _ _ g 138 _ _ rfl (hr5.setRow _) Tryz.underlying138 rfl (by kernel_rfl)) rfl ⟨rfl, below_setRow hB5 (by rw [hG.out]; omega) _⟩
   · go_wp2_with (first
       | (refine wpList_load_row rfl 138 _ rfl g2 rfl 138 _ (0, 0) _ hx5 Tryz.underlying138 rfl (by kernel_rfl) ?_)
       | (refine wpList_store_row rfl 138 _ _ rfl g _ rfl rfl 138 _ hr5 (by kernel_rfl) (by simp) (by simp [Value.oneCell']) ?_))
     refine bodyPost_ret (results_row_tmp rfl _ _ g 138 _ _ rfl (hr5.setRow _) Tryz.underlying138 rfl (by kernel_rfl)) rfl ⟨rfl, below_setRow hB5 (by rw [hG.out]; omega) _⟩
end Go.Proofs.YtbplgbkbggmaeaaGreat

namespace Go.Proofs.YtbplgbkbggmaeaaGreat
open Go.RowKit
theorem getD_nat (s : ByteArray) (i : Nat) (h : i < s.size) : (s.data.toList.getD i 0).toNat = s[i].toNat := by rw [getD_at s i h]
theorem unpack_yes (s : ByteArray) (w : World) (h : IsSlab s) :
   Calls Tryz.prog 116 #[.string s] w fun e w' => e = .returned (.tuple #[slabV (partE s) (partI s) (partB s), .int .i64 0]) ∧ Below w.heap.size w w' := by
 obtain ⟨hz, h0, hn, hs⟩ := h
 have h8 : s[8]'(by omega) = 0 := by rw [← getD_at s 8 (by omega)]; exact h0
 have hn' : partN s = (s[9]'(by omega)).toNat := getD_nat s 9 (by omega)
 exact unpack_rest s w hz (by omega) (by omega) (partN s) (show _ = _ by rw [hn', h8]; simp) hn true (by simpa [partB] using hs)
theorem unpack_no (s : ByteArray) (w : World) (h : ¬ IsSlab s) :
   Calls Tryz.prog 116 #[.string s] w fun e w' => e = .returned (.tuple #[noSlab, .int .i64 8]) ∧ Below w.heap.size w w' := by
 by_cases hz : s.size = 128
 · by_cases hc : 112 < (s[8]'(by omega)).toNat * 256 + (s[9]'(by omega)).toNat
   · exact unpack_len s w hz (by omega) (by omega) hc
   · have h8 : (s[8]'(by omega)).toNat = 0 := by omega
     have hn' : partN s = (s[9]'(by omega)).toNat := getD_nat s 9 (by omega)
     have h0 : s.data.toList.getD 8 0 = 0 := by
       rw [getD_at s 8 (by omega)]
       exact UInt8.toNat_inj.1 h8
     exact unpack_rest s w hz (by omega) (by omega) (partN s) (show _ = _ by rw [hn', h8]; simp) (by omega) false
       (by constructor
           · intro hs; exact absurd ⟨hz, h0, by omega, hs⟩ h
           · intro hf; cases hf)
 · exact unpack_size s w hz
end Go.Proofs.YtbplgbkbggmaeaaGreat

namespace Go.Proofs.YtbplgbkbggmaeaaGreat
open Go.RowKit
def packed (E I : Nat) (b : ByteArray) : ByteArray := ⟨(sect E I b).toArray⟩
theorem packed_data (E I : Nat) (b : ByteArray) : (packed E I b).data.toList = sect E I b := rfl
theorem sect_split (E I : Nat) (b : ByteArray) (hb : b.size ≤ 112) :
   sect E I b = be4 E ++ (be4 I ++ (0 :: UInt8.ofNat b.size :: 0 :: 0 :: (b.data.toList ++ (List.replicate (112 - b.size) 0 ++ le4 (Crc.sum (front E I b)))))) := by
 rw [sect_eq E I b hb]
 unfold front
 simp only [List.append_assoc, List.cons_append, List.nil_append]
section
variable {E I : Nat} {b : ByteArray} (hE : E < 4294967296) (hI : I < 4294967296) (hb : b.size ≤ 112)
include hb in
theorem packed_size : (packed E I b).size = 128 := by rw [← size_bytes, packed_data, sect_len E I b hb]
include hE hb in
theorem partE_packed : partE (packed E I b) = E := by
 unfold partE
 rw [packed_data, sect_split E I b hb, num4_be4 E hE]
include hI hb in
theorem partI_packed : partI (packed E I b) = I := by
 unfold partI
 rw [packed_data, sect_split E I b hb, List.drop_left' (be4_len E), num4_be4 I hI]
include hb in
theorem partN_packed : partN (packed E I b) = b.size := by
 unfold partN
 rw [packed_data, sect_split E I b hb]
 simp [be4, List.getD_eq_getElem?_getD]
 omega
include hb in
theorem partB_packed : partB (packed E I b) = b := by
 unfold partB
 rw [partN_packed hb]
 apply str_ext
 rw [Lib.extract_data, packed_data, sect_split E I b hb]
 have e : ∀ r : List UInt8, List.drop 12 (be4 E ++ (be4 I ++ (0 :: UInt8.ofNat b.size :: 0 :: 0 :: r))) = r := fun r => by simp [be4]
 rw [e, show 12 + b.size - 12 = b.data.toList.length from by rw [size_bytes]; omega, List.take_left' rfl]
include hE hI hb in
theorem isSlab_packed : IsSlab (packed E I b) := by
 refine ⟨packed_size hb, ?_, by rw [partN_packed hb]; exact hb, by rw [partE_packed hE hb, partI_packed hI hb, partB_packed hb, packed_data]⟩
 rw [packed_data, sect_split E I b hb]
 simp [be4, List.getD_eq_getElem?_getD]
end
def zeros : ByteArray := ⟨(List.replicate 128 0).toArray⟩
theorem zeros_not : ¬ IsSlab zeros := fun h => absurd h.2.2.2 (by decide +kernel)
theorem pack_c (E I : Nat) (b : ByteArray) (w : World) (hE : E < 4294967296) (hI : I < 4294967296) (hb : b.size ≤ 112) :
   Calls Tryz.prog 147 #[.agg #[.int .u32 E, .int .u32 I, .string b]] w fun e w' => e = .returned (.tuple #[.string (packed E I b), .int .i64 0]) ∧ Below w.heap.size w w' := pack_any E I b w hE hI hb
theorem unpackNo_c (s : ByteArray) (w : World) (h : ¬ IsSlab s) :
   Calls Tryz.prog 116 #[.string s] w fun e w' => e = .returned (.tuple #[.agg #[.int .u32 0, .int .u32 0, .string ⟨#[]⟩], .int .i64 8]) ∧ Below w.heap.size w w' := unpack_no s w h
theorem unpackYes_c (s : ByteArray) (w : World) (h : IsSlab s) :
   Calls Tryz.prog 116 #[.string s] w fun e w' => e = .returned (.tuple #[.agg #[.int .u32 (partE s), .int .u32 (partI s), .string (partB s)], .int .i64 0]) ∧ Below w.heap.size w w' := unpack_yes s w h
end Go.Proofs.YtbplgbkbggmaeaaGreat
