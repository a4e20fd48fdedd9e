/- Package slab: the sum and its table. -/
import Derived.Test.YtbjpnkjddfpmpaaRows
import Derived.Test.YtbjpnkjddfpmpaaCrc
import Derived.Test.YtbjpnkjddfpmpaaBase
namespace Go.Proofs.Ytbjpnkjddfpmpaa
open Go.RowKit

/-- The table of half bytes, as far as it is made. -/
def tab (k : Nat) : Array Value := ((List.range 16).map fun i => if i < k then Value.int .u32 (Crc.step4 i : Nat) else .int .u32 0).toArray
theorem tab_size (k : Nat) : (tab k).size = 16 := by simp [tab]
theorem tab_set (k : Nat) : (tab k).setIfInBounds k (.int .u32 (Crc.step4 k : Nat)) = tab (k + 1) := by
  apply Array.ext
  · simp [tab]
  · intro i h1 h2
    rw [Array.getElem_setIfInBounds (by simpa using h1)]
    simp only [tab, List.getElem_toArray, List.getElem_map, List.getElem_range]
    by_cases hi : k = i
    · subst hi; simp
    · rw [if_neg hi]; congr 1; simp; omega
theorem tab_zero : #[Value.int .u32 0, .int .u32 0, .int .u32 0, .int .u32 0, .int .u32 0, .int .u32 0, .int .u32 0, .int .u32 0, .int .u32 0, .int .u32 0, .int .u32 0, .int .u32 0, .int .u32 0, .int .u32 0, .int .u32 0, .int .u32 0] = tab 0 := by
  simp [tab, List.range, List.range.loop]
def stepN : Nat → Nat → Nat
  | 0, c => c
  | j + 1, c => Crc.step (stepN j c)
theorem stepN_lt {c : Nat} (h : c < 4294967296) (j : Nat) : stepN j c < 4294967296 := by
  induction j with
  | zero => exact h
  | succ j ih => exact Crc.step_lt ih
theorem and_one (m : Nat) (h : m < 4294967296) : bits .and .u32 (m : Int) 1 = ((m % 2 : Nat) : Int) := by
  have := u32_and_nat m 1 h (by omega)
  rw [Nat.and_one_is_mod] at this
  simpa using this
theorem xor_poly (m : Nat) (h : m < 4294967296) : bits .xor .u32 ((m : Int) / 2) 3988292384 = ((m / 2 ^^^ 3988292384 : Nat) : Int) := by
  have := u32_xor_nat (m / 2) 3988292384 (by omega) (by omega)
  simpa using this
theorem step_odd {m : Nat} (h : m < 4294967296) (ho : (bits .and .u32 (m : Int) 1 == 1) = true) : bits .xor .u32 ((m : Int) / 2) 3988292384 = (Crc.step m : Nat) := by
  rw [and_one m h] at ho
  have h1 : m % 2 = 1 := by simp at ho; omega
  rw [xor_poly m h, Crc.step, if_pos h1]
theorem step_even {m : Nat} (h : m < 4294967296) (ho : (bits .and .u32 (m : Int) 1 == 1) = false) : ((m : Int) / 2) = (Crc.step m : Nat) := by
  rw [and_one m h] at ho
  have h1 : ¬ m % 2 = 1 := by simp at ho; omega
  rw [Crc.step, if_neg h1]
  simp

set_option maxHeartbeats 1000000 in
theorem halfSteps_any (w : World) :
    Calls Try.prog 47 #[] w fun e w' => e = .returned (.agg (tab 16)) ∧ Below w.heap.size w w' := by
  go_enter Try.func47, Try.ntmps47
  go_wp2
  rw [tab_zero]
  have hb1 : Blk ((w.alloc (.cells (tab 0) 91)).alloc (.cells (tab 0) 91)) w.heap.size 91 (tab 0) := heap_alloc2_old w _ _
  have hb2 : Blk ((w.alloc (.cells (tab 0) 91)).alloc (.cells (tab 0) 91)) (w.heap.size + 1) 91 (tab 0) := heap_alloc2_new w _ _
  have hbl : Below w.heap.size w ((w.alloc (.cells (tab 0) 91)).alloc (.cells (tab 0) 91)) := ((Below.refl _ _).alloc (Nat.le_refl _) _).alloc (by simp) _
  generalize (w.alloc (.cells (tab 0) 91)).alloc (.cells (tab 0) 91) = w1 at *
  go_loopw [2, 3, 4] (fun _ _ i w' => ∃ k : Nat, k ≤ 16 ∧ i = .int .i64 k ∧ Below w.heap.size w w' ∧ Blk w' w.heap.size 91 (tab 0) ∧ Blk w' (w.heap.size + 1) 91 (tab k)) (fun _ _ i _ => 16 - (intOf i).toNat)
  case atStart => exact ⟨0, by omega, rfl, hbl, hb1, hb2⟩
  case round =>
    obtain ⟨k, hk, rfl, hB, h1, h2⟩ := hrel
    clear hb1 hb2 hbl
    by_cases h16 : k < 16
    · go_wp2
      go_loop [3, 9] (fun n i => ∃ j : Nat, j ≤ 4 ∧ i = .int .i64 j ∧ n = .int .u32 (stepN j k : Nat)) (fun _ i => 4 - (intOf i).toNat)
      case atStart => exact ⟨0, by omega, rfl, rfl⟩
      case round =>
        obtain ⟨j, hj, rfl, rfl⟩ := hrel
        have hs := stepN_lt (c := k) (by omega) j
        by_cases h4 : j < 4
        · go_wp2
          · go_round
            case rel => exact ⟨j + 1, by omega, by go_num, by rw [step_odd hs (by assumption)]; rfl⟩
            case measure => simp [intOf]; omega
          · go_round
            case rel => exact ⟨j + 1, by omega, by go_num, by rw [step_even hs (by assumption)]; rfl⟩
            case measure => simp [intOf]; omega
        · have hc := h2.cellAt (i := k) (by rw [tab_size]; omega)
          have hf := h2.frozen k
          have hj4 : j = 4 := by omega
          subst hj4
          have h2' := h2.set k (.int .u32 (stepN 4 k : Nat))
          rw [show stepN 4 k = Crc.step4 k from rfl, tab_set] at h2'
          have hH := Lib.hid h2'
          clear h2'
          go_wp2
          go_round
          case rel => exact ⟨k + 1, by omega, by go_num, hB.setCell (by simp) _, h1.far (by simp) _, hH.out⟩
          case measure => simp [intOf]; omega
    · obtain rfl : k = 16 := by omega
      go_wp2_with (first
        | (refine wpList_load_row rfl 91 _ rfl _ rfl 91 _ (0, 0) _ h2 Try.underlying91 rfl (by rw [tab_size]; kernel_rfl) ?_)
        | (refine wpList_store_row rfl 91 _ _ rfl _ _ rfl rfl 91 _ h1 (by rw [tab_size]; kernel_rfl) (by rw [tab_size, tab_size]) ?hall ?_))
      · decide +kernel
      · exact bodyPost_ret (results_cell_row rfl _ _ w.heap.size 91 (tab 16) (0, 0) _ rfl (h1.setRow _) Try.underlying91 rfl (by rw [tab_size]; kernel_rfl)) rfl ⟨rfl, below_setRow hB (Nat.le_refl _) _⟩

/-- The state of the sum behind the first k bytes. -/
def crcTo (s : ByteArray) (k : Nat) : Nat := Crc.run 4294967295 (s.data.toList.take k)
theorem crcTo_lt (s : ByteArray) (k : Nat) : crcTo s k < 4294967296 := Crc.run_lt _ (by omega)
theorem crcTo_succ (s : ByteArray) (k : Nat) (h : k < s.size) : crcTo s (k + 1) = Crc.byteStep (crcTo s k) s[k] := by
  unfold crcTo
  rw [List.take_succ_eq_append_getElem (by simpa using h), Crc.run_snoc]
  rfl
theorem tab_at (i : Nat) (h : i < 16) : (tab 16)[i]? = some (.int .u32 (Crc.step4 i : Nat)) := by
  simp [tab, h]

theorem and_15 (m : Nat) (h : m < 4294967296) : bits .and .u32 (m : Int) 15 = ((m % 16 : Nat) : Int) := by
  have := u32_and_nat m 15 h (by omega)
  rw [show (15 : Nat) = 2 ^ 4 - 1 from rfl, Nat.and_two_pow_sub_one_eq_mod] at this
  simpa using this
theorem xor_u32 {a b : Nat} (ha : a < 4294967296) (hb : b < 4294967296) : bits .xor .u32 (a : Int) (b : Int) = ((a ^^^ b : Nat) : Int) := u32_xor_nat a b ha hb
theorem not_u32 {c : Nat} (h : c < 4294967296) : bits .xor .u32 IntKind.u32.max (c : Int) = ((4294967295 - c : Nat) : Int) := by
  have h1 := u32_xor_nat 4294967295 c (by omega) h
  have h2 : (4294967295 : Nat) ^^^ c = 4294967295 - c := by
    apply Nat.eq_of_testBit_eq
    intro i
    have e := Nat.testBit_two_pow_sub_succ (n := 32) (x := c) h i
    rw [show 2 ^ 32 - (c + 1) = 4294967295 - c from by omega] at e
    rw [e, Nat.testBit_xor, show (4294967295 : Nat) = 2 ^ 32 - 1 from rfl, Nat.testBit_two_pow_sub_one]
    by_cases hi : i < 32
    · simp [hi]
    · have : c.testBit i = false := Nat.testBit_lt_two_pow (Nat.lt_of_lt_of_le h (Nat.pow_le_pow_right (n := 2) (by omega) (Nat.le_of_not_lt hi)))
      simp [hi, this]
  rw [h2] at h1
  exact h1
/-- What a byte's step reads of the table, and what it comes to, in the walk's own spelling. -/
theorem byte_reads {w : World} {g t c b : Nat} (hb : Blk w g t (tab 16)) (hc : c < 4294967296) (hbb : b < 256) :
    ∃ m i j : Nat, m < 4294967296 ∧ i < 16 ∧ j < 16 ∧
      bits .and .u32 (bits .xor .u32 (c : Int) (b : Int)) 15 = (i : Int) ∧ w.cell? ⟨g, i, none⟩ = some (.int .u32 (Crc.step4 i : Nat)) ∧
      bits .xor .u32 ((c : Int) / 16) (Crc.step4 i : Nat) = (m : Int) ∧
      bits .and .u32 (bits .xor .u32 (m : Int) ((b : Int) / 16)) 15 = (j : Int) ∧ w.cell? ⟨g, j, none⟩ = some (.int .u32 (Crc.step4 j : Nat)) ∧
      bits .xor .u32 ((m : Int) / 16) (Crc.step4 j : Nat) = ((m / 16 ^^^ Crc.step4 j : Nat) : Int) ∧
      m = c / 16 ^^^ Crc.step4 i ∧ i = (c ^^^ b) % 16 ∧ j = (m ^^^ b / 16) % 16 := by
  have s4 : ∀ x : Nat, Crc.step4 (x % 16) < 4294967296 := fun x => Crc.step4_lt (by omega)
  have rd : ∀ x : Nat, w.cell? ⟨g, x % 16, none⟩ = some (.int .u32 (Crc.step4 (x % 16) : Nat)) := fun x => by
    rw [hb.cell, tab_at _ (by omega)]
  have hm : c / 16 ^^^ Crc.step4 ((c ^^^ b) % 16) < 4294967296 := Crc.xor_lt (by omega) (s4 _)
  refine ⟨_, _, _, hm, by omega, ?_, ?_, rd _, ?_, ?_, rd _, ?_, rfl, rfl, rfl⟩
  · omega
  · rw [xor_u32 hc (by omega), and_15 _ (Crc.xor_lt hc (by omega))]
  · exact xor_u32 (a := c / 16) (by omega) (s4 _)
  · generalize c / 16 ^^^ Crc.step4 ((c ^^^ b) % 16) = m at hm ⊢
    have e := xor_u32 (a := m) (b := b / 16) hm (by omega)
    rw [show ((b / 16 : Nat) : Int) = (b : Int) / 16 from by omega] at e
    rw [e, and_15 _ (Crc.xor_lt hm (by omega))]
  · generalize c / 16 ^^^ Crc.step4 ((c ^^^ b) % 16) = m at hm ⊢
    exact xor_u32 (a := m / 16) (by omega) (s4 _)

set_option maxRecDepth 100000 in
set_option maxHeartbeats 1000000 in
theorem sum_any (s : ByteArray) (w : World) (hs : s.size ≤ maxLen) :
    Calls Try.prog 39 #[.string s] w fun e w' => e = .returned (.int .u32 (Crc.sum s.data.toList : Nat)) ∧ Below w.heap.size w w' := by
  unfold maxLen at hs
  go_enter Try.func39, Try.ntmps39
  go_wp2_with (first
    | (go_at_call 47; refine (halfSteps_any _).mono ?_; rintro e w1 ⟨rfl, hb⟩)
    | (refine wpList_store_row rfl 91 _ _ rfl _ _ rfl rfl 91 _ (Blk.new _ _ _) (by rw [tab_size]; kernel_rfl) (by rw [tab_size]; rfl) (by decide +kernel) ?_))
  have hk : Blk ((w1.alloc (.cells #[Value.int .u32 0, .int .u32 0, .int .u32 0, .int .u32 0, .int .u32 0, .int .u32 0, .int .u32 0, .int .u32 0, .int .u32 0, .int .u32 0, .int .u32 0, .int .u32 0, .int .u32 0, .int .u32 0, .int .u32 0, .int .u32 0] 91)).setRow w1.heap.size (tab 16)) w1.heap.size 91 (tab 16) := (Blk.new _ _ _).setRow _
  have hB : Below w.heap.size w ((w1.alloc (.cells #[Value.int .u32 0, .int .u32 0, .int .u32 0, .int .u32 0, .int .u32 0, .int .u32 0, .int .u32 0, .int .u32 0, .int .u32 0, .int .u32 0, .int .u32 0, .int .u32 0, .int .u32 0, .int .u32 0, .int .u32 0, .int .u32 0] 91)).setRow w1.heap.size (tab 16)) := below_setRow (hb.alloc hb.size _) hb.size _
  generalize (w1.alloc _).setRow w1.heap.size (tab 16) = w2 at *
  generalize w1.heap.size = g at *
  go_loop [4, 10] (fun n i => ∃ k : Nat, k ≤ s.size ∧ i = .int .i64 k ∧ n = .int .u32 (crcTo s k : Nat)) (fun _ i => s.size - (intOf i).toNat)
  case atStart => exact ⟨0, Nat.zero_le _, rfl, rfl⟩
  case round =>
    obtain ⟨k, hk', rfl, rfl⟩ := hrel
    have hl := crcTo_lt s k
    have hL := Lib.hid hl
    by_cases hlt : k < s.size
    · have hbyte : (s[k].toNat : Int) < 256 := by have := s[k].toNat_lt; omega
      obtain ⟨m, i, j, hm, hi, hj, e1, e2, e3, e4, e5, e6, em, ei, ej⟩ := byte_reads hk hl s[k].toNat_lt
      have hS : Hid (m / 16 ^^^ Crc.step4 j = crcTo s (k + 1)) := by
        show _ = _
        rw [crcTo_succ s k hlt, Crc.byteStep_halves, ej, em, ei]
      clear hl em hm ei ej
      go_wp2
      go_round
      case rel => exact ⟨k + 1, by omega, by go_num, by rw [hS.out]⟩
      case measure => simp [intOf]; omega
    · clear hl
      obtain rfl : k = s.size := by omega
      have hn := Lib.hid (not_u32 hL.out)
      have hf := Lib.hid (show crcTo s s.size = Crc.run 4294967295 s.data.toList by unfold crcTo; rw [List.take_of_length_le (by simp)])
      go_wp2
      go_ret
      exact ⟨by rw [hn.out, hf.out]; rfl, hB⟩
end Go.Proofs.Ytbjpnkjddfpmpaa
