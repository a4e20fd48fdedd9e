/- Plain facts on the CRC-32 of the document's layer 1, over natural numbers; nothing of the program is imported. -/
namespace Go.Proofs.Ytbjpnkjddfpmpaa.Crc

/-- One bit's step of the sum. -/
def step (c : Nat) : Nat := if c % 2 = 1 then c / 2 ^^^ 3988292384 else c / 2
def step4 (c : Nat) : Nat := step (step (step (step c)))
def step8 (c : Nat) : Nat := step4 (step4 c)
/-- One byte's step. -/
def byteStep (c : Nat) (b : UInt8) : Nat := step8 (c ^^^ b.toNat)
/-- The state behind bytes. -/
def run (c : Nat) (l : List UInt8) : Nat := l.foldl byteStep c
/-- The sum. -/
def sum (l : List UInt8) : Nat := 4294967295 - run 4294967295 l

theorem xor_lt {a b : Nat} (ha : a < 4294967296) (hb : b < 4294967296) : a ^^^ b < 4294967296 :=
  Nat.xor_lt_two_pow (n := 32) ha hb
theorem step_lt {c : Nat} (h : c < 4294967296) : step c < 4294967296 := by
  unfold step
  split
  · exact xor_lt (by omega) (by omega)
  · omega
theorem step4_lt {c : Nat} (h : c < 4294967296) : step4 c < 4294967296 := step_lt (step_lt (step_lt (step_lt h)))
theorem step8_lt {c : Nat} (h : c < 4294967296) : step8 c < 4294967296 := step4_lt (step4_lt h)
theorem byte_lt (b : UInt8) : b.toNat < 256 := b.toNat_lt
theorem byteStep_lt {c : Nat} (b : UInt8) (h : c < 4294967296) : byteStep c b < 4294967296 :=
  step8_lt (xor_lt h (by have := byte_lt b; omega))
theorem run_lt (l : List UInt8) : ∀ {c : Nat}, c < 4294967296 → run c l < 4294967296 := by
  induction l with
  | nil => intro c h; exact h
  | cons b l ih => intro c h; exact ih (byteStep_lt b h)
theorem sum_lt (l : List UInt8) : sum l < 4294967296 := by unfold sum; omega
theorem run_append (c : Nat) (l m : List UInt8) : run c (l ++ m) = run (run c l) m := by simp [run, List.foldl_append]
theorem run_snoc (c : Nat) (l : List UInt8) (b : UInt8) : run c (l ++ [b]) = byteStep (run c l) b := by rw [run_append]; rfl

theorem xor_div_two (a b : Nat) : (a ^^^ b) / 2 = a / 2 ^^^ b / 2 := by
  apply Nat.eq_of_testBit_eq
  intro i
  simp [Nat.testBit_div_two]
theorem xor_mod_two (a b : Nat) : (a ^^^ b) % 2 = (a % 2 + b % 2) % 2 := by
  have h := Nat.testBit_xor a b 0
  simp only [Nat.testBit_zero] at h
  have ha := Nat.mod_two_eq_zero_or_one a
  have hb := Nat.mod_two_eq_zero_or_one b
  have hc := Nat.mod_two_eq_zero_or_one (a ^^^ b)
  rcases ha with ha | ha <;> rcases hb with hb | hb <;> rcases hc with hc | hc <;> simp [ha, hb, hc] at h ⊢
theorem step_xor (a b : Nat) : step (a ^^^ b) = step a ^^^ step b := by
  unfold step
  rw [xor_div_two, xor_mod_two]
  rcases Nat.mod_two_eq_zero_or_one a with ha | ha <;> rcases Nat.mod_two_eq_zero_or_one b with hb | hb <;> simp [ha, hb]
  · ac_rfl
  · ac_rfl
  · have : ∀ x y p : Nat, x ^^^ y = x ^^^ p ^^^ (y ^^^ p) := fun x y p => by
      rw [Nat.xor_assoc, ← Nat.xor_assoc p y p, Nat.xor_comm p y, Nat.xor_assoc y p p, Nat.xor_self, Nat.xor_zero]
    exact this _ _ _
theorem step4_xor (a b : Nat) : step4 (a ^^^ b) = step4 a ^^^ step4 b := by simp only [step4, step_xor]
theorem step8_xor (a b : Nat) : step8 (a ^^^ b) = step8 a ^^^ step8 b := by simp only [step8, step4_xor]
theorem step_double (c : Nat) : step (c * 2) = c := by unfold step; rw [if_neg (by omega)]; omega
theorem step4_shift (c : Nat) : step4 (c * 16) = c := by
  unfold step4
  rw [show c * 16 = c * 2 * 2 * 2 * 2 from by omega, step_double, step_double, step_double, step_double]
theorem split16 (c : Nat) : c / 16 * 16 ^^^ c % 16 = c := by
  apply Nat.eq_of_testBit_eq
  intro i
  have h1 : c / 16 * 16 = (c >>> 4) <<< 4 := by rw [Nat.shiftLeft_eq, Nat.shiftRight_eq_div_pow]
  have h2 : c % 16 = c % 2 ^ 4 := by simp
  rw [Nat.testBit_xor, h1, h2, Nat.testBit_mod_two_pow, Nat.testBit_shiftLeft, Nat.testBit_shiftRight]
  by_cases hi : i < 4
  · simp [hi, show ¬ 4 ≤ i from by omega]
  · simp [hi, show i ≥ 4 from by omega, show 4 + (i - 4) = i from by omega]
/-- Half a byte at once. -/
theorem step4_eq (c : Nat) : step4 c = c / 16 ^^^ step4 (c % 16) := by
  have h := step4_xor (c / 16 * 16) (c % 16)
  rw [split16, step4_shift] at h
  exact h
theorem xor_div16 (a b : Nat) : (a ^^^ b) / 16 = a / 16 ^^^ b / 16 := by
  have h := fun n : Nat => (Nat.shiftRight_eq_div_pow n 4).symm
  simp only [show (2:Nat) ^ 4 = 16 from rfl] at h
  rw [h, h, h, Nat.shiftRight_xor_distrib]
/-- A byte's step is two steps of half a byte, the byte's upper half brought in by the second one. -/
theorem byteStep_halves (c : Nat) (b : UInt8) :
    byteStep c b = (c / 16 ^^^ step4 ((c ^^^ b.toNat) % 16)) / 16 ^^^ step4 (((c / 16 ^^^ step4 ((c ^^^ b.toNat) % 16)) ^^^ b.toNat / 16) % 16) := by
  have hb := byte_lt b
  unfold byteStep step8
  have h1 : step4 (c ^^^ b.toNat) = (c / 16 ^^^ step4 ((c ^^^ b.toNat) % 16)) ^^^ b.toNat / 16 := by
    rw [step4_eq, xor_div16]
    ac_rfl
  rw [h1, step4_eq]
  congr 1
  rw [xor_div16, show b.toNat / 16 / 16 = 0 from by omega, Nat.xor_zero]

/-- A step is one to one. -/
theorem step_zero {c : Nat} (h : c < 4294967296) (h0 : step c = 0) : c = 0 := by
  unfold step at h0
  split at h0
  · have h2 : c / 2 = 3988292384 := by
      have := congrArg (· ^^^ 3988292384) h0
      simpa [Nat.xor_assoc] using this
    omega
  · omega
theorem xor_zero_iff {a b : Nat} (h : a ^^^ b = 0) : a = b := by
  have := congrArg (· ^^^ b) h
  simpa [Nat.xor_assoc] using this
theorem step_inj {a b : Nat} (ha : a < 4294967296) (hb : b < 4294967296) (h : step a = step b) : a = b := by
  have h0 : step (a ^^^ b) = 0 := by rw [step_xor, h, Nat.xor_self]
  exact xor_zero_iff (step_zero (xor_lt ha hb) h0)
theorem step4_inj {a b : Nat} (ha : a < 4294967296) (hb : b < 4294967296) (h : step4 a = step4 b) : a = b :=
  step_inj ha hb (step_inj (step_lt ha) (step_lt hb) (step_inj (step_lt (step_lt ha)) (step_lt (step_lt hb))
    (step_inj (step_lt (step_lt (step_lt ha))) (step_lt (step_lt (step_lt hb))) h)))
theorem step8_inj {a b : Nat} (ha : a < 4294967296) (hb : b < 4294967296) (h : step8 a = step8 b) : a = b :=
  step4_inj ha hb (step4_inj (step4_lt ha) (step4_lt hb) h)
theorem xor_right_inj {a b c : Nat} (h : a ^^^ c = b ^^^ c) : a = b := by
  have := congrArg (· ^^^ c) h
  simpa [Nat.xor_assoc] using this
theorem byteStep_inj {a b : Nat} (c : UInt8) (ha : a < 4294967296) (hb : b < 4294967296) (h : byteStep a c = byteStep b c) : a = b := by
  have hc := byte_lt c
  exact xor_right_inj (step8_inj (xor_lt ha (by omega)) (xor_lt hb (by omega)) h)
theorem byteStep_byte {a : Nat} (b c : UInt8) (ha : a < 4294967296) (h : byteStep a b = byteStep a c) : b = c := by
  have hb := byte_lt b
  have hc := byte_lt c
  have h2 := step8_inj (xor_lt ha (by omega)) (xor_lt ha (by omega)) h
  rw [Nat.xor_comm a, Nat.xor_comm a] at h2
  exact UInt8.toNat_inj.1 (xor_right_inj h2)
theorem run_inj (l : List UInt8) : ∀ {a b : Nat}, a < 4294967296 → b < 4294967296 → run a l = run b l → a = b := by
  induction l with
  | nil => intro a b _ _ h; exact h
  | cons c l ih => intro a b ha hb h; exact byteStep_inj c ha hb (ih (byteStep_lt c ha) (byteStep_lt c hb) h)
/-- Two texts that differ at one place alone have unlike sums. -/
theorem sum_one (p q : List UInt8) (b c : UInt8) (h : sum (p ++ b :: q) = sum (p ++ c :: q)) : b = c := by
  have h0 : (4294967295 : Nat) < 4294967296 := by omega
  have l1 := run_lt (p ++ b :: q) h0
  have l2 := run_lt (p ++ c :: q) h0
  have h1 : run 4294967295 (p ++ b :: q) = run 4294967295 (p ++ c :: q) := by unfold sum at h; omega
  rw [run_append, run_append] at h1
  have lp := run_lt p h0
  exact byteStep_byte b c lp (run_inj q (byteStep_lt b lp) (byteStep_lt c lp) h1)
end Go.Proofs.Ytbjpnkjddfpmpaa.Crc
