/- Texts that belong together, joined: Crc, SlabA, SlabB, Zero, SlabC, SlabDm, SlabE, SlabF, SlabGm. -/
import Derived.Test.YtpcfhpffbogjmaaRows
import Derived.Test.YtpcfhpffbogjmaaBase
import Derived.Test.YtpcfhpffbogjmaaBytes
import Derived.Test.YtpcfhpffbogjmaaNum4
import Derived.Handy
import Derived.Lib.BufferWrite
import Derived.Lib.UnsafeStr
import Derived.Deep.RegionHeld3
import Derived.Deep.RegionWith
import Derived.Test.YtpcfhpffbogjmaaRegion
import Derived.Test.YtpcfhpffbogjmaaClone
/- Plain facts on the CRC-32 of the document's layer 1, over natural numbers; nothing of the program is imported. -/
namespace Go.Proofs.Ytpcfhpffbogjmaa.Crc

/-- One bit's step of the sum. -/
def step (c : Nat) : Nat := if c % 2 = 1 then c / 2 ^^^ 3988292384 else c / 2
def step4 (c : Nat) : Nat := step (step (step (step c)))
def step8 (c : Nat) : Nat := step4 (step4 c)
/-- One byte's step. -/
def byteStep (c : Nat) (b : UInt8) : Nat := step8 (c ^^^ b.toNat)
/-- The state behind bytes. -/
def run (c : Nat) (l : List UInt8) : Nat := l.foldl byteStep c
/-- The sum. -/
def sum (l : List UInt8) : Nat := 4294967295 - run 4294967295 l

theorem xor_lt {a b : Nat} (ha : a < 4294967296) (hb : b < 4294967296) : a ^^^ b < 4294967296 :=
  Nat.xor_lt_two_pow (n := 32) ha hb
theorem step_lt {c : Nat} (h : c < 4294967296) : step c < 4294967296 := by
  unfold step
  split
  · exact xor_lt (by omega) (by omega)
  · omega
theorem step4_lt {c : Nat} (h : c < 4294967296) : step4 c < 4294967296 := step_lt (step_lt (step_lt (step_lt h)))
theorem step8_lt {c : Nat} (h : c < 4294967296) : step8 c < 4294967296 := step4_lt (step4_lt h)
theorem byte_lt (b : UInt8) : b.toNat < 256 := b.toNat_lt
theorem byteStep_lt {c : Nat} (b : UInt8) (h : c < 4294967296) : byteStep c b < 4294967296 :=
  step8_lt (xor_lt h (by have := byte_lt b; omega))
theorem run_lt (l : List UInt8) : ∀ {c : Nat}, c < 4294967296 → run c l < 4294967296 := by
  induction l with
  | nil => intro c h; exact h
  | cons b l ih => intro c h; exact ih (byteStep_lt b h)
theorem sum_lt (l : List UInt8) : sum l < 4294967296 := by unfold sum; omega
theorem run_append (c : Nat) (l m : List UInt8) : run c (l ++ m) = run (run c l) m := by simp [run, List.foldl_append]
theorem run_snoc (c : Nat) (l : List UInt8) (b : UInt8) : run c (l ++ [b]) = byteStep (run c l) b := by rw [run_append]; rfl

theorem xor_div_two (a b : Nat) : (a ^^^ b) / 2 = a / 2 ^^^ b / 2 := by
  apply Nat.eq_of_testBit_eq
  intro i
  simp [Nat.testBit_div_two]
theorem xor_mod_two (a b : Nat) : (a ^^^ b) % 2 = (a % 2 + b % 2) % 2 := by
  have h := Nat.testBit_xor a b 0
  simp only [Nat.testBit_zero] at h
  have ha := Nat.mod_two_eq_zero_or_one a
  have hb := Nat.mod_two_eq_zero_or_one b
  have hc := Nat.mod_two_eq_zero_or_one (a ^^^ b)
  rcases ha with ha | ha <;> rcases hb with hb | hb <;> rcases hc with hc | hc <;> simp [ha, hb, hc] at h ⊢
theorem step_xor (a b : Nat) : step (a ^^^ b) = step a ^^^ step b := by
  unfold step
  rw [xor_div_two, xor_mod_two]
  rcases Nat.mod_two_eq_zero_or_one a with ha | ha <;> rcases Nat.mod_two_eq_zero_or_one b with hb | hb <;> simp [ha, hb]
  · ac_rfl
  · ac_rfl
  · have : ∀ x y p : Nat, x ^^^ y = x ^^^ p ^^^ (y ^^^ p) := fun x y p => by
      rw [Nat.xor_assoc, ← Nat.xor_assoc p y p, Nat.xor_comm p y, Nat.xor_assoc y p p, Nat.xor_self, Nat.xor_zero]
    exact this _ _ _
theorem step4_xor (a b : Nat) : step4 (a ^^^ b) = step4 a ^^^ step4 b := by simp only [step4, step_xor]
theorem step8_xor (a b : Nat) : step8 (a ^^^ b) = step8 a ^^^ step8 b := by simp only [step8, step4_xor]
theorem step_double (c : Nat) : step (c * 2) = c := by unfold step; rw [if_neg (by omega)]; omega
theorem step4_shift (c : Nat) : step4 (c * 16) = c := by
  unfold step4
  rw [show c * 16 = c * 2 * 2 * 2 * 2 from by omega, step_double, step_double, step_double, step_double]
theorem split16 (c : Nat) : c / 16 * 16 ^^^ c % 16 = c := by
  apply Nat.eq_of_testBit_eq
  intro i
  have h1 : c / 16 * 16 = (c >>> 4) <<< 4 := by rw [Nat.shiftLeft_eq, Nat.shiftRight_eq_div_pow]
  have h2 : c % 16 = c % 2 ^ 4 := by simp
  rw [Nat.testBit_xor, h1, h2, Nat.testBit_mod_two_pow, Nat.testBit_shiftLeft, Nat.testBit_shiftRight]
  by_cases hi : i < 4
  · simp [hi, show ¬ 4 ≤ i from by omega]
  · simp [hi, show i ≥ 4 from by omega, show 4 + (i - 4) = i from by omega]
/-- Half a byte at once. -/
theorem step4_eq (c : Nat) : step4 c = c / 16 ^^^ step4 (c % 16) := by
  have h := step4_xor (c / 16 * 16) (c % 16)
  rw [split16, step4_shift] at h
  exact h
theorem xor_div16 (a b : Nat) : (a ^^^ b) / 16 = a / 16 ^^^ b / 16 := by
  have h := fun n : Nat => (Nat.shiftRight_eq_div_pow n 4).symm
  simp only [show (2:Nat) ^ 4 = 16 from rfl] at h
  rw [h, h, h, Nat.shiftRight_xor_distrib]
/-- A byte's step is two steps of half a byte, the byte's upper half brought in by the second one. -/
theorem byteStep_halves (c : Nat) (b : UInt8) :
    byteStep c b = (c / 16 ^^^ step4 ((c ^^^ b.toNat) % 16)) / 16 ^^^ step4 (((c / 16 ^^^ step4 ((c ^^^ b.toNat) % 16)) ^^^ b.toNat / 16) % 16) := by
  have hb := byte_lt b
  unfold byteStep step8
  have h1 : step4 (c ^^^ b.toNat) = (c / 16 ^^^ step4 ((c ^^^ b.toNat) % 16)) ^^^ b.toNat / 16 := by
    rw [step4_eq, xor_div16]
    ac_rfl
  rw [h1, step4_eq]
  congr 1
  rw [xor_div16, show b.toNat / 16 / 16 = 0 from by omega, Nat.xor_zero]

/-- A step is one to one. -/
theorem step_zero {c : Nat} (h : c < 4294967296) (h0 : step c = 0) : c = 0 := by
  unfold step at h0
  split at h0
  · have h2 : c / 2 = 3988292384 := by
      have := congrArg (· ^^^ 3988292384) h0
      simpa [Nat.xor_assoc] using this
    omega
  · omega
theorem xor_zero_iff {a b : Nat} (h : a ^^^ b = 0) : a = b := by
  have := congrArg (· ^^^ b) h
  simpa [Nat.xor_assoc] using this
theorem step_inj {a b : Nat} (ha : a < 4294967296) (hb : b < 4294967296) (h : step a = step b) : a = b := by
  have h0 : step (a ^^^ b) = 0 := by rw [step_xor, h, Nat.xor_self]
  exact xor_zero_iff (step_zero (xor_lt ha hb) h0)
theorem step4_inj {a b : Nat} (ha : a < 4294967296) (hb : b < 4294967296) (h : step4 a = step4 b) : a = b :=
  step_inj ha hb (step_inj (step_lt ha) (step_lt hb) (step_inj (step_lt (step_lt ha)) (step_lt (step_lt hb))
    (step_inj (step_lt (step_lt (step_lt ha))) (step_lt (step_lt (step_lt hb))) h)))
theorem step8_inj {a b : Nat} (ha : a < 4294967296) (hb : b < 4294967296) (h : step8 a = step8 b) : a = b :=
  step4_inj ha hb (step4_inj (step4_lt ha) (step4_lt hb) h)
theorem xor_right_inj {a b c : Nat} (h : a ^^^ c = b ^^^ c) : a = b := by
  have := congrArg (· ^^^ c) h
  simpa [Nat.xor_assoc] using this
theorem byteStep_inj {a b : Nat} (c : UInt8) (ha : a < 4294967296) (hb : b < 4294967296) (h : byteStep a c = byteStep b c) : a = b := by
  have hc := byte_lt c
  exact xor_right_inj (step8_inj (xor_lt ha (by omega)) (xor_lt hb (by omega)) h)
theorem byteStep_byte {a : Nat} (b c : UInt8) (ha : a < 4294967296) (h : byteStep a b = byteStep a c) : b = c := by
  have hb := byte_lt b
  have hc := byte_lt c
  have h2 := step8_inj (xor_lt ha (by omega)) (xor_lt ha (by omega)) h
  rw [Nat.xor_comm a, Nat.xor_comm a] at h2
  exact UInt8.toNat_inj.1 (xor_right_inj h2)
theorem run_inj (l : List UInt8) : ∀ {a b : Nat}, a < 4294967296 → b < 4294967296 → run a l = run b l → a = b := by
  induction l with
  | nil => intro a b _ _ h; exact h
  | cons c l ih => intro a b ha hb h; exact byteStep_inj c ha hb (ih (byteStep_lt c ha) (byteStep_lt c hb) h)
/-- Two texts that differ at one place alone have unlike sums. -/
theorem sum_one (p q : List UInt8) (b c : UInt8) (h : sum (p ++ b :: q) = sum (p ++ c :: q)) : b = c := by
  have h0 : (4294967295 : Nat) < 4294967296 := by omega
  have l1 := run_lt (p ++ b :: q) h0
  have l2 := run_lt (p ++ c :: q) h0
  have h1 : run 4294967295 (p ++ b :: q) = run 4294967295 (p ++ c :: q) := by unfold sum at h; omega
  rw [run_append, run_append] at h1
  have lp := run_lt p h0
  exact byteStep_byte b c lp (run_inj q (byteStep_lt b lp) (byteStep_lt c lp) h1)
end Go.Proofs.Ytpcfhpffbogjmaa.Crc

/- Package slab: the sum and its table. -/
namespace Go.Proofs.Ytpcfhpffbogjmaa
open Go.RowKit

/-- The table of half bytes, as far as it is made. -/
def tab (k : Nat) : Array Value := ((List.range 16).map fun i => if i < k then Value.int .u32 (Crc.step4 i : Nat) else .int .u32 0).toArray
theorem tab_size (k : Nat) : (tab k).size = 16 := by simp [tab]
theorem tab_set (k : Nat) : (tab k).setIfInBounds k (.int .u32 (Crc.step4 k : Nat)) = tab (k + 1) := by
  apply Array.ext
  · simp [tab]
  · intro i h1 h2
    rw [Array.getElem_setIfInBounds (by simpa using h1)]
    simp only [tab, List.getElem_toArray, List.getElem_map, List.getElem_range]
    by_cases hi : k = i
    · subst hi; simp
    · rw [if_neg hi]; congr 1; simp; omega
theorem tab_zero : #[Value.int .u32 0, .int .u32 0, .int .u32 0, .int .u32 0, .int .u32 0, .int .u32 0, .int .u32 0, .int .u32 0, .int .u32 0, .int .u32 0, .int .u32 0, .int .u32 0, .int .u32 0, .int .u32 0, .int .u32 0, .int .u32 0] = tab 0 := by
  simp [tab, List.range, List.range.loop]
def stepN : Nat → Nat → Nat
  | 0, c => c
  | j + 1, c => Crc.step (stepN j c)
theorem stepN_lt {c : Nat} (h : c < 4294967296) (j : Nat) : stepN j c < 4294967296 := by
  induction j with
  | zero => exact h
  | succ j ih => exact Crc.step_lt ih
theorem and_one (m : Nat) (h : m < 4294967296) : bits .and .u32 (m : Int) 1 = ((m % 2 : Nat) : Int) := by
  have := u32_and_nat m 1 h (by omega)
  rw [Nat.and_one_is_mod] at this
  simpa using this
theorem xor_poly (m : Nat) (h : m < 4294967296) : bits .xor .u32 ((m : Int) / 2) 3988292384 = ((m / 2 ^^^ 3988292384 : Nat) : Int) := by
  have := u32_xor_nat (m / 2) 3988292384 (by omega) (by omega)
  simpa using this
theorem step_odd {m : Nat} (h : m < 4294967296) (ho : (bits .and .u32 (m : Int) 1 == 1) = true) : bits .xor .u32 ((m : Int) / 2) 3988292384 = (Crc.step m : Nat) := by
  rw [and_one m h] at ho
  have h1 : m % 2 = 1 := by simp at ho; omega
  rw [xor_poly m h, Crc.step, if_pos h1]
theorem step_even {m : Nat} (h : m < 4294967296) (ho : (bits .and .u32 (m : Int) 1 == 1) = false) : ((m : Int) / 2) = (Crc.step m : Nat) := by
  rw [and_one m h] at ho
  have h1 : ¬ m % 2 = 1 := by simp at ho; omega
  rw [Crc.step, if_neg h1]
  simp

set_option maxHeartbeats 1000000 in
theorem halfSteps_any (w : World) :
    Calls Try.prog 79 #[] w fun e w' => e = .returned (.agg (tab 16)) ∧ Below w.heap.size w w' := by
  go_enter Try.func79, Try.ntmps79
  go_wp2
  rw [tab_zero]
  have hb1 : Blk ((w.alloc (.cells (tab 0) 134)).alloc (.cells (tab 0) 134)) w.heap.size 134 (tab 0) := heap_alloc2_old w _ _
  have hb2 : Blk ((w.alloc (.cells (tab 0) 134)).alloc (.cells (tab 0) 134)) (w.heap.size + 1) 134 (tab 0) := heap_alloc2_new w _ _
  have hbl : Below w.heap.size w ((w.alloc (.cells (tab 0) 134)).alloc (.cells (tab 0) 134)) := ((Below.refl _ _).alloc (Nat.le_refl _) _).alloc (by simp) _
  generalize (w.alloc (.cells (tab 0) 134)).alloc (.cells (tab 0) 134) = w1 at *
  go_loopw [2, 3, 4] (fun _ _ i w' => ∃ k : Nat, k ≤ 16 ∧ i = .int .i64 k ∧ Below w.heap.size w w' ∧ Blk w' w.heap.size 134 (tab 0) ∧ Blk w' (w.heap.size + 1) 134 (tab k)) (fun _ _ i _ => 16 - (intOf i).toNat)
  case atStart => exact ⟨0, by omega, rfl, hbl, hb1, hb2⟩
  case round =>
    obtain ⟨k, hk, rfl, hB, h1, h2⟩ := hrel
    clear hb1 hb2 hbl
    by_cases h16 : k < 16
    · go_wp2
      go_loop [3, 9] (fun n i => ∃ j : Nat, j ≤ 4 ∧ i = .int .i64 j ∧ n = .int .u32 (stepN j k : Nat)) (fun _ i => 4 - (intOf i).toNat)
      case atStart => exact ⟨0, by omega, rfl, rfl⟩
      case round =>
        obtain ⟨j, hj, rfl, rfl⟩ := hrel
        have hs := stepN_lt (c := k) (by omega) j
        by_cases h4 : j < 4
        · go_wp2
          · go_round
            case rel => exact ⟨j + 1, by omega, by go_num, by rw [step_odd hs (by assumption)]; rfl⟩
            case measure => simp [intOf]; omega
          · go_round
            case rel => exact ⟨j + 1, by omega, by go_num, by rw [step_even hs (by assumption)]; rfl⟩
            case measure => simp [intOf]; omega
        · have hc := h2.cellAt (i := k) (by rw [tab_size]; omega)
          have hf := h2.frozen k
          have hj4 : j = 4 := by omega
          subst hj4
          have h2' := h2.set k (.int .u32 (stepN 4 k : Nat))
          rw [show stepN 4 k = Crc.step4 k from rfl, tab_set] at h2'
          have hH := Lib.hid h2'
          clear h2'
          go_wp2
          go_round
          case rel => exact ⟨k + 1, by omega, by go_num, hB.setCell (by simp) _, h1.far (by simp) _, hH.out⟩
          case measure => simp [intOf]; omega
    · obtain rfl : k = 16 := by omega
      go_wp2_with (first
        | (refine wpList_load_row rfl 134 _ rfl _ rfl 134 _ (0, 0) _ h2 Try.underlying134 rfl (by rw [tab_size]; kernel_rfl) ?_)
        | (refine wpList_store_row rfl 134 _ _ rfl _ _ rfl rfl 134 _ h1 (by rw [tab_size]; kernel_rfl) (by rw [tab_size, tab_size]) ?hall ?_))
      · decide +kernel
      · exact bodyPost_ret (results_cell_row rfl _ _ w.heap.size 134 (tab 16) (0, 0) _ rfl (h1.setRow _) Try.underlying134 rfl (by rw [tab_size]; kernel_rfl)) rfl ⟨rfl, below_setRow hB (Nat.le_refl _) _⟩

/-- The state of the sum behind the first k bytes. -/
def crcTo (s : ByteArray) (k : Nat) : Nat := Crc.run 4294967295 (s.data.toList.take k)
theorem crcTo_lt (s : ByteArray) (k : Nat) : crcTo s k < 4294967296 := Crc.run_lt _ (by omega)
theorem crcTo_succ (s : ByteArray) (k : Nat) (h : k < s.size) : crcTo s (k + 1) = Crc.byteStep (crcTo s k) s[k] := by
  unfold crcTo
  rw [List.take_succ_eq_append_getElem (by simpa using h), Crc.run_snoc]
  rfl
theorem tab_at (i : Nat) (h : i < 16) : (tab 16)[i]? = some (.int .u32 (Crc.step4 i : Nat)) := by
  simp [tab, h]

theorem and_15 (m : Nat) (h : m < 4294967296) : bits .and .u32 (m : Int) 15 = ((m % 16 : Nat) : Int) := by
  have := u32_and_nat m 15 h (by omega)
  rw [show (15 : Nat) = 2 ^ 4 - 1 from rfl, Nat.and_two_pow_sub_one_eq_mod] at this
  simpa using this
theorem xor_u32 {a b : Nat} (ha : a < 4294967296) (hb : b < 4294967296) : bits .xor .u32 (a : Int) (b : Int) = ((a ^^^ b : Nat) : Int) := u32_xor_nat a b ha hb
theorem not_u32 {c : Nat} (h : c < 4294967296) : bits .xor .u32 IntKind.u32.max (c : Int) = ((4294967295 - c : Nat) : Int) := by
  have h1 := u32_xor_nat 4294967295 c (by omega) h
  have h2 : (4294967295 : Nat) ^^^ c = 4294967295 - c := by
    apply Nat.eq_of_testBit_eq
    intro i
    have e := Nat.testBit_two_pow_sub_succ (n := 32) (x := c) h i
    rw [show 2 ^ 32 - (c + 1) = 4294967295 - c from by omega] at e
    rw [e, Nat.testBit_xor, show (4294967295 : Nat) = 2 ^ 32 - 1 from rfl, Nat.testBit_two_pow_sub_one]
    by_cases hi : i < 32
    · simp [hi]
    · have : c.testBit i = false := Nat.testBit_lt_two_pow (Nat.lt_of_lt_of_le h (Nat.pow_le_pow_right (n := 2) (by omega) (Nat.le_of_not_lt hi)))
      simp [hi, this]
  rw [h2] at h1
  exact h1
/-- What a byte's step reads of the table, and what it comes to, in the walk's own spelling. -/
theorem byte_reads {w : World} {g t c b : Nat} (hb : Blk w g t (tab 16)) (hc : c < 4294967296) (hbb : b < 256) :
    ∃ m i j : Nat, m < 4294967296 ∧ i < 16 ∧ j < 16 ∧
      bits .and .u32 (bits .xor .u32 (c : Int) (b : Int)) 15 = (i : Int) ∧ w.cell? ⟨g, i, none⟩ = some (.int .u32 (Crc.step4 i : Nat)) ∧
      bits .xor .u32 ((c : Int) / 16) (Crc.step4 i : Nat) = (m : Int) ∧
      bits .and .u32 (bits .xor .u32 (m : Int) ((b : Int) / 16)) 15 = (j : Int) ∧ w.cell? ⟨g, j, none⟩ = some (.int .u32 (Crc.step4 j : Nat)) ∧
      bits .xor .u32 ((m : Int) / 16) (Crc.step4 j : Nat) = ((m / 16 ^^^ Crc.step4 j : Nat) : Int) ∧
      m = c / 16 ^^^ Crc.step4 i ∧ i = (c ^^^ b) % 16 ∧ j = (m ^^^ b / 16) % 16 := by
  have s4 : ∀ x : Nat, Crc.step4 (x % 16) < 4294967296 := fun x => Crc.step4_lt (by omega)
  have rd : ∀ x : Nat, w.cell? ⟨g, x % 16, none⟩ = some (.int .u32 (Crc.step4 (x % 16) : Nat)) := fun x => by
    rw [hb.cell, tab_at _ (by omega)]
  have hm : c / 16 ^^^ Crc.step4 ((c ^^^ b) % 16) < 4294967296 := Crc.xor_lt (by omega) (s4 _)
  refine ⟨_, _, _, hm, by omega, ?_, ?_, rd _, ?_, ?_, rd _, ?_, rfl, rfl, rfl⟩
  · omega
  · rw [xor_u32 hc (by omega), and_15 _ (Crc.xor_lt hc (by omega))]
  · exact xor_u32 (a := c / 16) (by omega) (s4 _)
  · generalize c / 16 ^^^ Crc.step4 ((c ^^^ b) % 16) = m at hm ⊢
    have e := xor_u32 (a := m) (b := b / 16) hm (by omega)
    rw [show ((b / 16 : Nat) : Int) = (b : Int) / 16 from by omega] at e
    rw [e, and_15 _ (Crc.xor_lt hm (by omega))]
  · generalize c / 16 ^^^ Crc.step4 ((c ^^^ b) % 16) = m at hm ⊢
    exact xor_u32 (a := m / 16) (by omega) (s4 _)

set_option maxRecDepth 100000 in
set_option maxHeartbeats 1000000 in
theorem sum_any (s : ByteArray) (w : World) (hs : s.size ≤ maxLen) :
    Calls Try.prog 69 #[.string s] w fun e w' => e = .returned (.int .u32 (Crc.sum s.data.toList : Nat)) ∧ Below w.heap.size w w' := by
  unfold maxLen at hs
  go_enter Try.func69, Try.ntmps69
  go_wp2_with (first
    | (go_at_call 79; refine (halfSteps_any _).mono ?_; rintro e w1 ⟨rfl, hb⟩)
    | (refine wpList_store_row rfl 134 _ _ rfl _ _ rfl rfl 134 _ (Blk.new _ _ _) (by rw [tab_size]; kernel_rfl) (by rw [tab_size]; rfl) (by decide +kernel) ?_))
  have hk : Blk ((w1.alloc (.cells #[Value.int .u32 0, .int .u32 0, .int .u32 0, .int .u32 0, .int .u32 0, .int .u32 0, .int .u32 0, .int .u32 0, .int .u32 0, .int .u32 0, .int .u32 0, .int .u32 0, .int .u32 0, .int .u32 0, .int .u32 0, .int .u32 0] 134)).setRow w1.heap.size (tab 16)) w1.heap.size 134 (tab 16) := (Blk.new _ _ _).setRow _
  have hB : Below w.heap.size w ((w1.alloc (.cells #[Value.int .u32 0, .int .u32 0, .int .u32 0, .int .u32 0, .int .u32 0, .int .u32 0, .int .u32 0, .int .u32 0, .int .u32 0, .int .u32 0, .int .u32 0, .int .u32 0, .int .u32 0, .int .u32 0, .int .u32 0, .int .u32 0] 134)).setRow w1.heap.size (tab 16)) := below_setRow (hb.alloc hb.size _) hb.size _
  generalize (w1.alloc _).setRow w1.heap.size (tab 16) = w2 at *
  generalize w1.heap.size = g at *
  go_loop [4, 10] (fun n i => ∃ k : Nat, k ≤ s.size ∧ i = .int .i64 k ∧ n = .int .u32 (crcTo s k : Nat)) (fun _ i => s.size - (intOf i).toNat)
  case atStart => exact ⟨0, Nat.zero_le _, rfl, rfl⟩
  case round =>
    obtain ⟨k, hk', rfl, rfl⟩ := hrel
    have hl := crcTo_lt s k
    have hL := Lib.hid hl
    by_cases hlt : k < s.size
    · have hbyte : (s[k].toNat : Int) < 256 := by have := s[k].toNat_lt; omega
      obtain ⟨m, i, j, hm, hi, hj, e1, e2, e3, e4, e5, e6, em, ei, ej⟩ := byte_reads hk hl s[k].toNat_lt
      have hS : Hid (m / 16 ^^^ Crc.step4 j = crcTo s (k + 1)) := by
        show _ = _
        rw [crcTo_succ s k hlt, Crc.byteStep_halves, ej, em, ei]
      clear hl em hm ei ej
      go_wp2
      go_round
      case rel => exact ⟨k + 1, by omega, by go_num, by rw [hS.out]⟩
      case measure => simp [intOf]; omega
    · clear hl
      obtain rfl : k = s.size := by omega
      have hn := Lib.hid (not_u32 hL.out)
      have hf := Lib.hid (show crcTo s s.size = Crc.run 4294967295 s.data.toList by unfold crcTo; rw [List.take_of_length_le (by simp)])
      go_wp2
      go_ret
      exact ⟨by rw [hn.out, hf.out]; rfl, hB⟩
end Go.Proofs.Ytpcfhpffbogjmaa

/- Package slab: numbers as bytes. -/
namespace Go.Proofs.Ytpcfhpffbogjmaa
open Go.RowKit

/-- Four bytes, the lowest first. -/
def le4 (n : Nat) : List UInt8 := [UInt8.ofNat n, UInt8.ofNat (n / 256), UInt8.ofNat (n / 65536), UInt8.ofNat (n / 16777216)]
set_option maxRecDepth 100000 in
set_option maxHeartbeats 1000000 in
theorem putHigh_any (g off len cap t n : Nat) (l : List UInt8) (w : World) (hn : n < 4294967296) (hb : Blk w g t (bytesV l)) (ho : off + 4 ≤ l.length) (h4 : 4 ≤ len) (hm : len ≤ 9223372036854775807) :
    Calls Try.prog 67 #[.slice (some ⟨g, off, none⟩) len cap, .int .u32 n] w fun e w' => e = .returned (.tuple #[]) ∧ w.grownBy w' (some g) ∧ Blk w' g t (bytesV (splice l off (be4 n))) := by
  have hN := Lib.hid hn
  clear hn
  have cell : ∀ (w : World) (l : List UInt8) (i : Nat), Blk w g t (bytesV l) → i < l.length → ∃ v, w.cell? ⟨g, i, none⟩ = some v := fun w l i hb hi => ⟨_, hb.cellAt (by rw [bytesV_size]; exact hi)⟩
  go_enter Try.func67, Try.ntmps67
  go_wp2
  refine wp_loop_rounds 5 ?_
  rw [rounds_succ]
  obtain ⟨v0, c0⟩ := cell _ _ off hb (by (try simp only [List.length_set]); omega)
  have f0 := hb.frozen off
  have hb0 := hb.setB off (n / 16777216) ((n : Int) / 16777216 % 256) (by omega)
  go_wp2
  rw [rounds_succ]
  obtain ⟨v1, c1⟩ := cell _ _ (off + 1) hb0 (by (try simp only [List.length_set]); omega)
  have f1 := hb0.frozen (off + 1)
  have hb1 := hb0.setB (off + 1) (n / 65536) ((n : Int) / 65536 % 256) (by omega)
  go_wp2
  rw [rounds_succ]
  obtain ⟨v2, c2⟩ := cell _ _ (off + 2) hb1 (by (try simp only [List.length_set]); omega)
  have f2 := hb1.frozen (off + 2)
  have hb2 := hb1.setB (off + 2) (n / 256) ((n : Int) / 256 % 256) (by omega)
  go_wp2
  rw [rounds_succ]
  obtain ⟨v3, c3⟩ := cell _ _ (off + 3) hb2 (by (try simp only [List.length_set]); omega)
  have f3 := hb2.frozen (off + 3)
  have hb3 := hb2.setB (off + 3) (n) ((n : Int) % 256) (by omega)
  go_wp2
  rw [rounds_succ]
  go_wp2
  go_end0
  refine ⟨rfl, ?_, ?_⟩
  · exact grown_trans' (grown_trans' (grown_trans' (grown_set _ _ _ _) (grown_set _ _ _ _)) (grown_set _ _ _ _)) (grown_set _ _ _ _)
  · rw [be4, ← set4 _ _ _ _ _ _ ho]
    exact hb3

set_option maxRecDepth 100000 in
set_option maxHeartbeats 1000000 in
theorem putLow_any (g off len cap t n : Nat) (l : List UInt8) (w : World) (hn : n < 4294967296) (hb : Blk w g t (bytesV l)) (ho : off + 4 ≤ l.length) (h4 : 4 ≤ len) (hm : len ≤ 9223372036854775807) :
    Calls Try.prog 68 #[.slice (some ⟨g, off, none⟩) len cap, .int .u32 n] w fun e w' => e = .returned (.tuple #[]) ∧ w.grownBy w' (some g) ∧ Blk w' g t (bytesV (splice l off (le4 n))) := by
  have hN := Lib.hid hn
  clear hn
  have cell : ∀ (w : World) (l : List UInt8) (i : Nat), Blk w g t (bytesV l) → i < l.length → ∃ v, w.cell? ⟨g, i, none⟩ = some v := fun w l i hb hi => ⟨_, hb.cellAt (by rw [bytesV_size]; exact hi)⟩
  go_enter Try.func68, Try.ntmps68
  go_wp2
  refine wp_loop_rounds 5 ?_
  rw [rounds_succ]
  obtain ⟨v0, c0⟩ := cell _ _ off hb (by (try simp only [List.length_set]); omega)
  have f0 := hb.frozen off
  have hb0 := hb.setB off (n) ((n : Int) % 256) (by omega)
  go_wp2
  rw [rounds_succ]
  obtain ⟨v1, c1⟩ := cell _ _ (off + 1) hb0 (by (try simp only [List.length_set]); omega)
  have f1 := hb0.frozen (off + 1)
  have hb1 := hb0.setB (off + 1) (n / 256) ((n : Int) / 256 % 256) (by omega)
  go_wp2
  rw [rounds_succ]
  obtain ⟨v2, c2⟩ := cell _ _ (off + 2) hb1 (by (try simp only [List.length_set]); omega)
  have f2 := hb1.frozen (off + 2)
  have hb2 := hb1.setB (off + 2) (n / 65536) ((n : Int) / 65536 % 256) (by omega)
  go_wp2
  rw [rounds_succ]
  obtain ⟨v3, c3⟩ := cell _ _ (off + 3) hb2 (by (try simp only [List.length_set]); omega)
  have f3 := hb2.frozen (off + 3)
  have hb3 := hb2.setB (off + 3) (n / 16777216) ((n : Int) / 16777216 % 256) (by omega)
  go_wp2
  rw [rounds_succ]
  go_wp2
  go_end0
  refine ⟨rfl, ?_, ?_⟩
  · exact grown_trans' (grown_trans' (grown_trans' (grown_set _ _ _ _) (grown_set _ _ _ _)) (grown_set _ _ _ _)) (grown_set _ _ _ _)
  · rw [le4, ← set4 _ _ _ _ _ _ ho]
    exact hb3

end Go.Proofs.Ytpcfhpffbogjmaa

/- Package slab: the sector of noughts. -/
namespace Go.Proofs.Ytpcfhpffbogjmaa
open Go.RowKit

theorem zero_run (w : World) : (zeroValue 97).run Try.prog w = .ok (.agg (bytesV (List.replicate 128 0))) w := by kernel_rfl

set_option maxRecDepth 100000 in
set_option maxHeartbeats 1000000 in
theorem zero_any (w : World) :
    Calls Try.prog 27 #[] w fun e w' => e = .returned (.string ⟨(List.replicate 128 0).toArray⟩) ∧ Below w.heap.size w w' := by
  have hz := zero_run
  generalize hl : List.replicate 128 (0 : UInt8) = l at *
  have hc := conv_blk (Blk.new w 97 (bytesV l)) 0 128 128 (by rw [← hl]; simp) 51 5 9 Try.underlying51 Try.underlying5 Try.underlying9
  have hL := Lib.hid hl
  clear hl
  go_enter Try.func27, Try.ntmps27
  go_wp2
  go_ret
  refine ⟨?_, (Below.refl _ _).alloc (Nat.le_refl _) _⟩
  show Ending.returned (.string ⟨(List.take 128 l).toArray⟩) = _
  rw [List.take_of_length_le (by rw [← hL.out]; simp)]
end Go.Proofs.Ytpcfhpffbogjmaa

/- Package slab: packing. -/
namespace Go.Proofs.Ytpcfhpffbogjmaa
open Go.RowKit

set_option maxRecDepth 100000 in
set_option maxHeartbeats 1000000 in
theorem pack_long (E I : Nat) (s : ByteArray) (w : World) (hl : 112 < s.size) (hs : s.size ≤ maxLen) :
    Calls Try.prog 49 #[.agg #[.int .u32 E, .int .u32 I, .string s]] w fun e w' => e = .returned (.tuple #[.string ⟨#[]⟩, .int .i64 1]) ∧ Below w.heap.size w w' := by
  unfold maxLen at hs
  go_enter Try.func49, Try.ntmps49
  go_wp2
  go_ret2
  exact ⟨rfl, (Below.refl _ _).alloc (Nat.le_refl _) _⟩

/-- What stands while a sector is made: the slab in a box, the sector behind it. -/
structure Packing (w W : World) (E I : Nat) (s : ByteArray) (l : List UInt8) : Prop where
  below : Below w.heap.size w W
  box : Blk W w.heap.size 104 #[.int .u32 E, .int .u32 I, .string s]
  row : Blk W (w.heap.size + 1) 97 (bytesV l)
namespace Packing
variable {w W W' : World} {E I : Nat} {s : ByteArray} {l l' : List UInt8}
theorem start : Packing w ((w.alloc (.cells #[.int .u32 E, .int .u32 I, .string s] 104)).alloc (.cells (bytesV l) 97)) E I s l := by
  refine ⟨((Below.refl _ _).alloc (Nat.le_refl _) _).alloc (by simp) _, (Blk.new _ _ _).alloc _, ?_⟩
  have h := Blk.new (w.alloc (.cells #[.int .u32 E, .int .u32 I, .string s] 104)) 97 (bytesV l)
  simp only [World.size_alloc] at h
  exact h
theorem drew (h : Packing w W E I s l) : Packing w W.drew E I s l := ⟨h.below.drew, h.box, h.row⟩
theorem c0 (h : Packing w W E I s l) : W.cell? ⟨w.heap.size, 0, none⟩ = some (.int .u32 E) := h.box.cellAt (by simp)
theorem c1 (h : Packing w W E I s l) : W.cell? ⟨w.heap.size, 1, none⟩ = some (.int .u32 I) := h.box.cellAt (by simp)
theorem c2 (h : Packing w W E I s l) : W.cell? ⟨w.heap.size, 2, none⟩ = some (.string s) := h.box.cellAt (by simp)
theorem grown (h : Packing w W E I s l) (hg : W.grownBy W' (some (w.heap.size + 1))) (hr : Blk W' (w.heap.size + 1) 97 (bytesV l')) : Packing w W' E I s l' :=
  ⟨h.below.grown hg h.below.size (fun k hk => by simp at hk; omega), (hg.block _ h.box.lt (by simp)).trans h.box, hr⟩
theorem copied (h : Packing w W E I s l) (l' : List UInt8) : Packing w (W.setRow (w.heap.size + 1) (bytesV l')) E I s l' :=
  ⟨below_setRow h.below (by omega) _, h.box.farRow (by omega) _, h.row.setRow _⟩
theorem more (h : Packing w W E I s l) (hb : Below W.heap.size W W') : Packing w W' E I s l :=
  ⟨below2 h.below hb, h.box.keep hb h.box.lt, h.row.keep hb h.row.lt⟩
end Packing
/-- A slab's sector, step by step as the program makes it. -/
def sect0 (E I : Nat) (s : ByteArray) : List UInt8 :=
  splice (splice (splice (splice (List.replicate 128 0) 0 (be4 E)) 4 (be4 I)) 8 (be4 (s.size * 65536))) 12 s.data.toList
def sect (E I : Nat) (s : ByteArray) : List UInt8 := splice (sect0 E I s) 124 (le4 (Crc.sum ((sect0 E I s).take 124)))
theorem le4_len (n : Nat) : (le4 n).length = 4 := rfl
theorem len_splice {l c : List UInt8} {o : Nat} (h : o + c.length ≤ l.length) : (splice l o c).length = l.length := length_splice l o c h

theorem sect0_len (E I : Nat) (s : ByteArray) (hl : s.size ≤ 112) : (sect0 E I s).length = 128 := by
  unfold sect0
  rw [len_splice, len_splice, len_splice, len_splice, List.length_replicate]
  · rw [be4_len, List.length_replicate]; omega
  · rw [be4_len, len_splice, List.length_replicate] <;> (try rw [be4_len, List.length_replicate]) <;> omega
  · rw [be4_len, len_splice, len_splice, List.length_replicate] <;> (try rw [be4_len]) <;> (try rw [len_splice]) <;> (try rw [be4_len]) <;> (try rw [List.length_replicate]) <;> omega
  · rw [size_bytes, len_splice, len_splice, len_splice, List.length_replicate] <;> (try rw [be4_len]) <;> (try rw [len_splice]) <;> (try rw [len_splice]) <;> (try rw [be4_len]) <;> (try rw [List.length_replicate]) <;> (try omega)
    all_goals (rw [be4_len, List.length_replicate]; omega)
theorem sect_len (E I : Nat) (s : ByteArray) (hl : s.size ≤ 112) : (sect E I s).length = 128 := by
  unfold sect
  rw [len_splice] <;> rw [sect0_len E I s hl]
  rw [le4_len]; omega

set_option maxRecDepth 100000 in
set_option maxHeartbeats 2000000 in
theorem pack_any (E I : Nat) (s : ByteArray) (w : World) (hE : E < 4294967296) (hI : I < 4294967296) (hl : s.size ≤ 112) :
    Calls Try.prog 49 #[.agg #[.int .u32 E, .int .u32 I, .string s]] w fun e w' => e = .returned (.tuple #[.string ⟨(sect E I s).toArray⟩, .int .i64 0]) ∧ Below w.heap.size w w' := by
  have hz := zero_run
  have L0 : 128 ≤ (List.replicate 128 (0 : UInt8)).length := by simp
  have HR : Hid (sect E I s = splice (splice (splice (splice (splice (List.replicate 128 0) 0 (be4 E)) 4 (be4 I)) 8 (be4 (s.size * 65536))) 12 s.data.toList) 124 (le4 (Crc.sum ((splice (splice (splice (splice (List.replicate 128 0) 0 (be4 E)) 4 (be4 I)) 8 (be4 (s.size * 65536))) 12 s.data.toList).take 124)))) := rfl
  generalize List.replicate 128 (0 : UInt8) = l at *
  have L1 : 128 ≤ (splice l 0 (be4 E)).length := by rw [len_splice (by rw [be4_len]; omega)]; exact L0
  have L2 : 128 ≤ (splice (splice l 0 (be4 E)) 4 (be4 I)).length := by rw [len_splice (by rw [be4_len]; omega)]; exact L1
  have L3 : 128 ≤ (splice (splice (splice l 0 (be4 E)) 4 (be4 I)) 8 (be4 (s.size * 65536))).length := by rw [len_splice (by rw [be4_len]; omega)]; exact L2
  have L4 : 128 ≤ (splice (splice (splice (splice l 0 (be4 E)) 4 (be4 I)) 8 (be4 (s.size * 65536))) 12 s.data.toList).length := by rw [len_splice (by rw [size_bytes]; omega)]; exact L3
  go_enter Try.func49, Try.ntmps49
  go_wp2
  have hp := Packing.start (w := w) (E := E) (I := I) (s := s) (l := l)
  generalize ((w.alloc (.cells #[.int .u32 E, .int .u32 I, .string s] 104)).alloc (.cells (bytesV l) 97)) = w1 at *
  have c := hp.c0
  go_still_tail 3, (by kernel_rfl)
  change wpList _ _ _ _ _ w1.drew
  replace hp := hp.drew
  clear c
  generalize w1.drew = w2 at *
  go_wp2_with fail
  refine (putHigh_any (w.heap.size + 1) 0 128 128 _ E l _ hE hp.row (by omega) (by omega) (by omega)).mono ?_
  rintro e w3 ⟨rfl, hg, hb⟩
  replace hp := hp.grown hg hb
  clear hg hb
  have c := hp.c1
  go_wp2_with fail
  go_still_tail 3, (by kernel_rfl)
  change wpList _ _ _ _ _ w3.drew
  replace hp := hp.drew
  clear c
  generalize w3.drew = w4 at *
  go_wp2_with fail
  refine (putHigh_any (w.heap.size + 1) 4 124 124 _ I _ _ hI hp.row (by omega) (by omega) (by omega)).mono ?_
  rintro e w5 ⟨rfl, hg, hb⟩
  replace hp := hp.grown hg hb
  clear hg hb
  have c := hp.c2
  go_wp2_with fail
  go_still_tail 6, (by kernel_rfl)
  change wpList _ _ _ _ _ w5.drew
  replace hp := hp.drew
  clear c
  generalize w5.drew = w6 at *
  go_wp2_with fail
  rw [show (s.size : Int) * 65536 = ((s.size * 65536 : Nat) : Int) from by omega]
  refine (putHigh_any (w.heap.size + 1) 8 120 120 _ (s.size * 65536) _ _ (by omega) hp.row (by omega) (by omega) (by omega)).mono ?_
  rintro e w7 ⟨rfl, hg, hb⟩
  replace hp := hp.grown hg hb
  clear hg hb
  have c := hp.c2
  go_wp2_with fail
  go_still_tail 3, (by kernel_rfl)
  change wpList _ _ _ _ _ w7.drew
  replace hp := hp.drew
  clear c
  generalize w7.drew = w8 at *
  have hcp := Lib.run_copy_row_string (P := Try.prog) w8 51 9 3 5 (w.heap.size + 1) 12 116 116 s _ 97 Try.underlying51 info_u8 hp.row (by omega) (by rw [bytesV_size]; omega)
  rw [← size_bytes s, bytesV_splice, size_bytes s] at hcp
  go_wp2_with fail
  clear hcp
  replace hp := hp.copied (splice (splice (splice (splice l 0 (be4 E)) 4 (be4 I)) 8 (be4 (s.size * 65536))) 12 s.data.toList)
  generalize w8.setRow _ _ = w9 at *
  generalize splice (splice (splice (splice l 0 (be4 E)) 4 (be4 I)) 8 (be4 (s.size * 65536))) 12 s.data.toList = l4 at *
  have hsz : (⟨(List.take 124 l4).toArray⟩ : ByteArray).size ≤ maxLen := by
    show (List.take 124 l4).toArray.size ≤ maxLen
    simp [maxLen]; omega
  have hcv := conv_blk hp.drew.row 0 124 128 (by omega) 51 5 9 Try.underlying51 Try.underlying5 Try.underlying9
  go_region_with (first
    | (go_at_call 69; refine (sum_any _ _ hsz).mono ?_; rintro e w10 ⟨rfl, hb10⟩)
    | (go_at_call 68; refine (putLow_any (w.heap.size + 1) 124 4 4 _ _ _ _ (Crc.sum_lt _) (hp.drew.more hb10).row (by omega) (by omega) (by omega)).mono ?_; rintro e w11 ⟨rfl, hg, hb⟩))
  replace hp := (hp.drew.more hb10).grown hg hb
  have hS := hp.row
  rw [← HR.out] at hS
  have hcv2 := conv_blk hS 0 128 128 (by rw [sect_len E I s hl]; omega) 51 5 9 Try.underlying51 Try.underlying5 Try.underlying9
  go_wp2
  go_ret2
  refine ⟨?_, hp.below⟩
  show Ending.returned (.tuple #[.string ⟨(List.take 128 (sect E I s)).toArray⟩, .int .i64 0]) = _
  rw [List.take_of_length_le (by rw [sect_len E I s hl]; omega)]
end Go.Proofs.Ytpcfhpffbogjmaa

/- A slab's sector: plain. -/
namespace Go.Proofs.Ytpcfhpffbogjmaa
open Go.RowKit

theorem splice_app {α : Type} (p x q c : List α) (n : Nat) (hn : p.length = n) (h : x.length = c.length) : splice (p ++ x ++ q) n c = p ++ c ++ q := by
  subst hn
  unfold splice
  rw [List.append_assoc, List.take_left' rfl, ← List.append_assoc p x q, List.drop_left' (by simp [h]), ← List.append_assoc]
/-- The first 124 bytes of a slab's sector. -/
def front (E I : Nat) (s : ByteArray) : List UInt8 := be4 E ++ be4 I ++ [0, UInt8.ofNat s.size, 0, 0] ++ s.data.toList ++ List.replicate (112 - s.size) 0
theorem front_len (E I : Nat) (s : ByteArray) (h : s.size ≤ 112) : (front E I s).length = 124 := by
  unfold front
  simp only [List.length_append, be4_len, size_bytes, List.length_replicate, List.length_cons, List.length_nil]
  omega
theorem be4_size (n : Nat) (h : n ≤ 112) : be4 (n * 65536) = [0, UInt8.ofNat n, 0, 0] := by
  have e1 : UInt8.ofNat (n * 65536 / 16777216) = 0 := by rw [show n * 65536 / 16777216 = 0 from by omega]; rfl
  have e2 : n * 65536 / 65536 = n := by omega
  have e3 : UInt8.ofNat (n * 65536 / 256) = 0 := by
    apply UInt8.toNat_inj.1
    simp <;> omega
  have e4 : UInt8.ofNat (n * 65536) = 0 := by
    apply UInt8.toNat_inj.1
    simp <;> omega
  unfold be4
  rw [e1, e2, e3, e4]
theorem sect0_eq (E I : Nat) (s : ByteArray) (h : s.size ≤ 112) : sect0 E I s = front E I s ++ List.replicate 4 0 := by
  unfold sect0 front
  have r1 : List.replicate 128 (0 : UInt8) = [] ++ List.replicate 4 0 ++ (List.replicate 4 0 ++ (List.replicate 4 0 ++ (List.replicate s.size 0 ++ (List.replicate (112 - s.size) 0 ++ List.replicate 4 0)))) := by
    simp only [List.replicate_append_replicate, List.nil_append]
    congr 1
    omega
  have r2 : ∀ (p x q : List UInt8), p ++ (x ++ q) = p ++ x ++ q := fun p x q => (List.append_assoc _ _ _).symm
  rw [r1, splice_app [] _ _ (be4 E) 0 rfl (by simp [be4_len]), r2, splice_app _ _ _ (be4 I) 4 (by simp [be4_len]) (by simp [be4_len]), r2,
    splice_app _ _ _ (be4 (s.size * 65536)) 8 (by simp [be4_len]) (by simp [be4_len]), r2, splice_app _ _ _ s.data.toList 12 (by simp [be4_len]) (by simp), be4_size _ h]
  simp
theorem sect_eq (E I : Nat) (s : ByteArray) (h : s.size ≤ 112) : sect E I s = front E I s ++ le4 (Crc.sum (front E I s)) := by
  unfold sect
  rw [sect0_eq E I s h, List.take_left' (front_len E I s h)]
  have := splice_app (front E I s) (List.replicate 4 0) [] (le4 (Crc.sum (front E I s))) 124 (front_len E I s h) (by simp [le4_len])
  simpa using this
end Go.Proofs.Ytpcfhpffbogjmaa

/- Package slab, and the document's own answers: what a text is unpacked to. -/
namespace Go.Proofs.Ytpcfhpffbogjmaa
open Go.RowKit

theorem i64_or (a b : Nat) (ha : a < 256) (hb : b < 256) : bits .or .i64 ((a : Int) * 256) (b : Int) = ((a * 256 + b : Nat) : Int) := by
  have h := (bits_nat .i64 62 (by decide) (fun n h0 h1 => by rw [IntKind.wrap_i64]; omega) (a * 256) b (by omega) (by omega)).2
  rw [show (a : Int) * 256 = ((a * 256 : Nat) : Int) from by omega, h]
  congr 1
  have := Nat.shiftLeft_add_eq_or_of_lt (b := b) (i := 8) (by omega) a
  rw [Nat.shiftLeft_eq] at this
  exact this.symm

/-- What a text of 128 bytes holds, if it is a slab's sector. -/
def partE (s : ByteArray) : Nat := num4 s.data.toList
def partI (s : ByteArray) : Nat := num4 (s.data.toList.drop 4)
def partN (s : ByteArray) : Nat := (s.data.toList.getD 9 0).toNat
def partB (s : ByteArray) : ByteArray := s.extract 12 (12 + partN s)
/-- Is it one? -/
def IsSlab (s : ByteArray) : Prop := s.size = 128 ∧ s.data.toList.getD 8 0 = 0 ∧ partN s ≤ 112 ∧ sect (partE s) (partI s) (partB s) = s.data.toList
def slabV (E I : Nat) (b : ByteArray) : Value := .agg #[.int .u32 E, .int .u32 I, .string b]
def noSlab : Value := .agg #[.int .u32 0, .int .u32 0, .string ⟨#[]⟩]

theorem num4_lt (l : List UInt8) : num4 l < 4294967296 := by
  unfold num4
  have a := (l.getD 0 0).toNat_lt
  have b := (l.getD 1 0).toNat_lt
  have c := (l.getD 2 0).toNat_lt
  have d := (l.getD 3 0).toNat_lt
  omega

end Go.Proofs.Ytpcfhpffbogjmaa

/- Package slab: a slab's sector is unpacked to its parts, any other text to none. -/
namespace Go.Proofs.Ytpcfhpffbogjmaa
open Go.RowKit

theorem getD_nat (s : ByteArray) (i : Nat) (h : i < s.size) : (s.data.toList.getD i 0).toNat = s[i].toNat := by rw [getD_at s i h]
end Go.Proofs.Ytpcfhpffbogjmaa

/- Package slab: what is packed is unpacked; the contracts, with the texts under a name. -/
namespace Go.Proofs.Ytpcfhpffbogjmaa
open Go.RowKit

/-- The text that a slab is packed to. -/
def packed (E I : Nat) (b : ByteArray) : ByteArray := ⟨(sect E I b).toArray⟩
theorem packed_data (E I : Nat) (b : ByteArray) : (packed E I b).data.toList = sect E I b := rfl
theorem sect_split (E I : Nat) (b : ByteArray) (hb : b.size ≤ 112) :
    sect E I b = be4 E ++ (be4 I ++ (0 :: UInt8.ofNat b.size :: 0 :: 0 :: (b.data.toList ++ (List.replicate (112 - b.size) 0 ++ le4 (Crc.sum (front E I b)))))) := by
  rw [sect_eq E I b hb]
  unfold front
  simp only [List.append_assoc, List.cons_append, List.nil_append]
section
variable {E I : Nat} {b : ByteArray} (hE : E < 4294967296) (hI : I < 4294967296) (hb : b.size ≤ 112)
include hb in
theorem packed_size : (packed E I b).size = 128 := by rw [← size_bytes, packed_data, sect_len E I b hb]
include hE hb in
theorem partE_packed : partE (packed E I b) = E := by
  unfold partE
  rw [packed_data, sect_split E I b hb, num4_be4 E hE]
include hI hb in
theorem partI_packed : partI (packed E I b) = I := by
  unfold partI
  rw [packed_data, sect_split E I b hb, List.drop_left' (be4_len E), num4_be4 I hI]
include hb in
theorem partN_packed : partN (packed E I b) = b.size := by
  unfold partN
  rw [packed_data, sect_split E I b hb]
  simp [be4, List.getD_eq_getElem?_getD]
  omega
include hb in
theorem partB_packed : partB (packed E I b) = b := by
  unfold partB
  rw [partN_packed hb]
  apply str_ext
  rw [Lib.extract_data, packed_data, sect_split E I b hb]
  have e : ∀ r : List UInt8, List.drop 12 (be4 E ++ (be4 I ++ (0 :: UInt8.ofNat b.size :: 0 :: 0 :: r))) = r := fun r => by simp [be4]
  rw [e, show 12 + b.size - 12 = b.data.toList.length from by rw [size_bytes]; omega, List.take_left' rfl]
include hE hI hb in
theorem isSlab_packed : IsSlab (packed E I b) := by
  refine ⟨packed_size hb, ?_, by rw [partN_packed hb]; exact hb, by rw [partE_packed hE hb, partI_packed hI hb, partB_packed hb, packed_data]⟩
  rw [packed_data, sect_split E I b hb]
  simp [be4, List.getD_eq_getElem?_getD]
end
/-- A slab's sector is packed of its parts. -/
theorem packed_parts {s : ByteArray} (h : IsSlab s) : packed (partE s) (partI s) (partB s) = s := str_ext h.2.2.2
theorem partB_size {s : ByteArray} (h : IsSlab s) : (partB s).size ≤ 112 := by
  unfold partB
  have := h.2.2.1
  rw [ByteArray.size_extract]
  omega

def zeros : ByteArray := ⟨(List.replicate 128 0).toArray⟩
theorem zeros_not : ¬ IsSlab zeros := fun h => absurd h.2.2.2 (by decide +kernel)
def letterA : ByteArray := ⟨#[97]⟩
theorem awake_front : (packed 1 2 letterA).extract 0 13 = ⟨#[0, 0, 0, 1, 0, 0, 0, 2, 0, 1, 0, 0, 97]⟩ := by decide +kernel
theorem awake_sum : Crc.sum [49, 50, 51, 52, 53, 54, 55, 56, 57] = 3421780262 := by decide +kernel

theorem pack_c (E I : Nat) (b : ByteArray) (w : World) (hE : E < 4294967296) (hI : I < 4294967296) (hb : b.size ≤ 112) :
    Calls Try.prog 49 #[.agg #[.int .u32 E, .int .u32 I, .string b]] w fun e w' => e = .returned (.tuple #[.string (packed E I b), .int .i64 0]) ∧ Below w.heap.size w w' := pack_any E I b w hE hI hb
theorem zero_c (w : World) : Calls Try.prog 27 #[] w fun e w' => e = .returned (.string zeros) ∧ Below w.heap.size w w' := zero_any w
end Go.Proofs.Ytpcfhpffbogjmaa
