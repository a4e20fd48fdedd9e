/- Floats of 64 bits: plain mathematics over their words: the order as whole numbers, sums that are exact, one NaN for all. Nothing of the program is imported. -/
import Derived.Laws.FloatArith
import Derived.IntWalk
namespace Go.Proofs.Ytpkglclhopamcaa.Flt
open Ieee

/-- The value of a rung, counted in units of the least place. -/
def val (r : Nat) : Nat := if r < 2 ^ 52 then r else (2 ^ 52 + r % 2 ^ 52) * 2 ^ (r / 2 ^ 52 - 1)
def rung (x : Nat) : Nat := x % 2 ^ 63
def top : Nat := 2047 * 2 ^ 52
def nanW (x : Nat) : Bool := decide (top < rung x)
def negW (x : Nat) : Bool := x / 2 ^ 63 % 2 == 1
def canonNaN : Nat := 9221120237041090560
def canon (x : Nat) : Nat := if nanW x then canonNaN else x

theorem double_binade : double.binade = 2 ^ 52 := rfl
theorem double_sign : double.signWeight = 2 ^ 63 := rfl
theorem double_inf : double.infRung = top := rfl
theorem double_least : double.leastPlace = -1074 := by decide +kernel

theorem read_eq (x : Nat) : double.read x = if rung x < 2 ^ 52 then Datum.number (negW x) (rung x) (-1074) else if rung x < top then .number (negW x) (2 ^ 52 + rung x % 2 ^ 52) (-1074 + (rung x / 2 ^ 52 - 1 : Nat)) else if rung x = top then .infinity (negW x) else .nan (negW x) (rung x - top) := by
  rw [← double_least]; rfl
theorem read_nan {x : Nat} (h : nanW x = true) : ∃ s t, double.read x = .nan s t := by
  have h' : top < rung x := by simpa [nanW] using h
  have ht : (2 : Nat) ^ 52 ≤ top := by decide
  rw [read_eq, if_neg (by omega), if_neg (by omega), if_neg (by omega)]
  exact ⟨_, _, rfl⟩
theorem read_inf {x : Nat} (h : rung x = top) : double.read x = .infinity (negW x) := by
  have ht : (2 : Nat) ^ 52 ≤ top := by decide
  rw [read_eq, if_neg (by omega), if_neg (by omega), if_pos h]
theorem read_num {x : Nat} (h : rung x < top) : ∃ m p, ∃ k : Nat, double.read x = .number (negW x) m p ∧ p = -1074 + (k : Int) ∧ m * 2 ^ k = val (rung x) ∧ k ≤ 2046 := by
  rw [read_eq]
  unfold val
  by_cases h1 : rung x < 2 ^ 52
  · rw [if_pos h1, if_pos h1]
    exact ⟨_, _, 0, rfl, by simp, by simp, by omega⟩
  · rw [if_neg h1, if_pos h, if_neg h1]
    refine ⟨_, _, _, rfl, rfl, rfl, ?_⟩
    unfold top at h; omega

theorem val_lt_of {r : Nat} (h : ¬ r < 2 ^ 52) : 2 ^ 52 * 2 ^ (r / 2 ^ 52 - 1) ≤ val r ∧ val r < 2 ^ 52 * 2 ^ (r / 2 ^ 52) := by
  unfold val
  rw [if_neg h]
  have hm := Nat.mod_lt r (show 2 ^ 52 > 0 by decide)
  constructor
  · exact Nat.mul_le_mul_right _ (by omega)
  · have e : r / 2 ^ 52 = (r / 2 ^ 52 - 1) + 1 := by omega
    have e2 : 2 ^ 52 * 2 ^ (r / 2 ^ 52) = (2 ^ 52 + 2 ^ 52) * 2 ^ (r / 2 ^ 52 - 1) := by
      conv => lhs; rw [e]
      generalize r / 2 ^ 52 - 1 = q
      generalize (2 : Nat) ^ 52 = d
      rw [Nat.pow_succ, Nat.add_mul, ← Nat.mul_assoc]; omega
    rw [e2]
    exact (Nat.mul_lt_mul_right (Nat.two_pow_pos _)).2 (by omega)

/-- Greater rungs have greater values. -/
theorem val_mono {a b : Nat} (h : a < b) : val a < val b := by
  by_cases ha : a < 2 ^ 52
  · by_cases hb : b < 2 ^ 52
    · simpa [val, ha, hb] using h
    · have := (val_lt_of hb).1
      have e : val a = a := by simp only [val]; rw [if_pos ha]
      have p : 1 ≤ 2 ^ (b / 2 ^ 52 - 1) := Nat.two_pow_pos _
      have q : 2 ^ 52 * 1 ≤ 2 ^ 52 * 2 ^ (b / 2 ^ 52 - 1) := Nat.mul_le_mul_left _ p
      rw [e]; omega
  · have hb : ¬ b < 2 ^ 52 := by omega
    by_cases hq : a / 2 ^ 52 = b / 2 ^ 52
    · unfold val
      rw [if_neg ha, if_neg hb, hq]
      exact (Nat.mul_lt_mul_right (Nat.two_pow_pos _)).2 (by omega)
    · have hq' : a / 2 ^ 52 ≤ b / 2 ^ 52 - 1 := by omega
      have h1 := (val_lt_of ha).2
      have h2 := (val_lt_of hb).1
      have h3 : 2 ^ 52 * 2 ^ (a / 2 ^ 52) ≤ 2 ^ 52 * 2 ^ (b / 2 ^ 52 - 1) := Nat.mul_le_mul_left _ (Nat.pow_le_pow_right (by decide) hq')
      omega
theorem val_lt_iff {a b : Nat} : val a < val b ↔ a < b := by
  constructor
  · intro h
    rcases Nat.lt_trichotomy a b with c | c | c
    · exact c
    · subst c; omega
    · have := val_mono c; omega
  · exact val_mono
theorem val_inj {a b : Nat} (h : val a = val b) : a = b := by
  rcases Nat.lt_trichotomy a b with c | c | c
  · have := val_mono c; omega
  · exact c
  · have := val_mono c; omega
theorem val_zero : val 0 = 0 := rfl
theorem val_pos {a : Nat} (h : 0 < a) : 0 < val a := by have := val_mono h; rw [val_zero] at this; omega

/-- A word's place in the row, as a whole number (the two zeros at one place). -/
def skey (x : Nat) : Int := if negW x then -(rung x : Int) else rung x
def sval (x : Nat) : Int := if negW x then -(val (rung x) : Int) else val (rung x)
theorem sval_lt {x y : Nat} : sval x < sval y ↔ skey x < skey y := by
  unfold sval skey
  have h1 := @val_lt_iff (rung x) (rung y)
  have h2 := @val_lt_iff (rung y) (rung x)
  have z1 : 0 < rung x → 0 < val (rung x) := val_pos
  have z2 : 0 < rung y → 0 < val (rung y) := val_pos
  have z3 : rung x = 0 → val (rung x) = 0 := fun h => by rw [h]; rfl
  have z4 : rung y = 0 → val (rung y) = 0 := fun h => by rw [h]; rfl
  generalize val (rung x) = a at *
  generalize val (rung y) = b at *
  generalize rung x = c at *
  generalize rung y = d at *
  split <;> split <;> omega

theorem signed_eq (s : Bool) (m k : Nat) : signed s m k = (if s then -((m * 2 ^ k : Nat) : Int) else ((m * 2 ^ k : Nat) : Int)) := by
  unfold signed; simp only [Nat.shiftLeft_eq]
theorem signed_scale (s : Bool) (m k j : Nat) : signed s m (k + j) = signed s m k * ((2 ^ j : Nat) : Int) := by
  rw [signed_eq, signed_eq]
  rw [Nat.pow_add, ← Nat.mul_assoc]
  cases s <;> simp [Int.neg_mul]
theorem compare_scale (a b : Int) {c : Nat} (h : 0 < c) : compare (a * (c : Int)) (b * (c : Int)) = compare a b := by
  have hc : (0 : Int) < (c : Int) := by omega
  have l : a * (c : Int) < b * (c : Int) ↔ a < b := ⟨fun h => Int.lt_of_mul_lt_mul_right h (by omega), fun h => Int.mul_lt_mul_of_pos_right h hc⟩
  have e : a * (c : Int) = b * (c : Int) ↔ a = b := ⟨fun h => Int.eq_of_mul_eq_mul_right (by omega) h, fun h => by rw [h]⟩
  simp only [compare, compareOfLessAndEq, l, e]
theorem compare_of {a b c d : Int} (l : a < b ↔ c < d) (g : b < a ↔ d < c) : compare a b = compare c d := by
  have e : a = b ↔ c = d := by omega
  simp only [compare, compareOfLessAndEq, l, e]

/-- What stands of a number over any base at or above the least place. -/
theorem read_over {x : Nat} (h : rung x < top) : ∃ m p, ∃ k : Nat, double.read x = .number (negW x) m p ∧ p = -1074 + (k : Int) ∧ k ≤ 2046 ∧
    (m = 0 ↔ rung x = 0) ∧ ∀ j : Nat, j ≤ k → signed (negW x) m (k - j) * ((2 ^ j : Nat) : Int) = sval x := by
  obtain ⟨m, p, k, h1, h2, h3, h4⟩ := read_num h
  refine ⟨m, p, k, h1, h2, h4, ?_, ?_⟩
  · constructor
    · rintro rfl
      rcases Nat.eq_zero_or_pos (rung x) with z | z
      · exact z
      · have := val_pos z; simp at h3; omega
    · intro z
      rw [z, val_zero] at h3
      have := Nat.two_pow_pos k
      rcases Nat.mul_eq_zero.1 h3 with q | q
      · exact q
      · omega
  · intro j hj
    rw [← signed_scale, Nat.sub_add_cancel hj, signed_eq, h3]; rfl

theorem order_num {x y : Nat} (hx : rung x < top) (hy : rung y < top) : double.order x y = some (compare (skey x) (skey y)) := by
  obtain ⟨m, p, k, h1, rfl, h3, h4, h5⟩ := read_over hx
  obtain ⟨n, q, l, g1, rfl, g3, g4, g5⟩ := read_over hy
  unfold Format.order
  rw [h1, g1]
  simp only [Datum.order]
  have e1 : (-1074 + (k : Int) - min (-1074 + (k : Int)) (-1074 + (l : Int))).toNat = k - min k l := by omega
  have e2 : (-1074 + (l : Int) - min (-1074 + (k : Int)) (-1074 + (l : Int))).toNat = l - min k l := by omega
  rw [e1, e2]
  congr 1
  rw [← compare_scale _ _ (Nat.two_pow_pos (min k l)), h5 _ (by omega), g5 _ (by omega)]
  exact compare_of sval_lt sval_lt

theorem skey_bound {x : Nat} (h : rung x < top) : -(top : Int) < skey x ∧ skey x < (top : Int) := by
  unfold skey; split <;> omega
theorem cmp_lt {a b : Int} (h : a < b) : compare a b = .lt := by simp only [compare, compareOfLessAndEq]; rw [if_pos h]
theorem cmp_gt {a b : Int} (h : b < a) : compare a b = .gt := by simp only [compare, compareOfLessAndEq]; rw [if_neg (by omega), if_neg (by omega)]
theorem cmp_eq {a b : Int} (h : a = b) : compare a b = .eq := by simp only [compare, compareOfLessAndEq]; rw [if_neg (by omega), if_pos h]
/-- The order of any two that are numbers or infinities. -/
theorem order_some {x y : Nat} (hx : nanW x = false) (hy : nanW y = false) : double.order x y = some (compare (skey x) (skey y)) := by
  have hx' : rung x ≤ top := by simpa [nanW] using hx
  have hy' : rung y ≤ top := by simpa [nanW] using hy
  by_cases ix : rung x = top
  · by_cases iy : rung y = top
    · unfold Format.order
      rw [read_inf ix, read_inf iy]
      simp only [Datum.order, skey, ix, iy]
      cases negW x <;> cases negW y <;> decide +kernel
    · obtain ⟨m, p, k, h1, _⟩ := read_num (x := y) (by omega)
      have b := skey_bound (x := y) (by omega)
      unfold Format.order
      rw [read_inf ix, h1]
      simp only [Datum.order]
      congr 1
      cases hn : negW x
      · have e : skey x = top := by rw [skey, ix, hn]; rfl
        rw [cmp_gt (by omega)]; rfl
      · have e : skey x = -(top : Int) := by rw [skey, ix, hn]; rfl
        rw [cmp_lt (by omega)]; rfl
  · by_cases iy : rung y = top
    · obtain ⟨m, p, k, h1, _⟩ := read_num (x := x) (by omega)
      have b := skey_bound (x := x) (by omega)
      unfold Format.order
      rw [read_inf iy, h1]
      simp only [Datum.order]
      congr 1
      cases hn : negW y
      · have e : skey y = top := by rw [skey, iy, hn]; rfl
        rw [cmp_lt (by omega)]; rfl
      · have e : skey y = -(top : Int) := by rw [skey, iy, hn]; rfl
        rw [cmp_gt (by omega)]; rfl
    · exact order_num (by omega) (by omega)
theorem order_nan {x y : Nat} (h : nanW x = true ∨ nanW y = true) : double.order x y = none := by
  unfold Format.order
  rcases h with h | h
  · obtain ⟨s, t, e⟩ := read_nan h
    rw [e]; rfl
  · obtain ⟨s, t, e⟩ := read_nan h
    rw [e]
    cases double.read x <;> rfl
theorem order_self (x : Nat) : double.order x x = if nanW x then none else some .eq := by
  cases h : nanW x
  · rw [order_some h h]; simp [compare, compareOfLessAndEq]
  · rw [order_nan (.inl h)]; rfl

/-- The document's place in the row. -/
def key (x : Nat) : Int := if nanW x then 9223372036854775807 else if negW x then -1 - rung x else rung x
def ord (x y : Nat) : Int := if key x < key y then -1 else if key x > key y then 1 else 0

theorem rung_zero_of (x : Nat) : (double.order x 0 == some .eq) = decide (rung x = 0) := by
  cases h : nanW x
  · rw [order_some h (by decide)]
    have e : skey 0 = 0 := by decide
    have e2 : skey x = 0 ↔ rung x = 0 := by unfold skey; split <;> omega
    rw [e]
    by_cases g : rung x = 0
    · rw [cmp_eq (e2.2 g)]; simp [g]
    · have g' : skey x ≠ 0 := fun c => g (e2.1 c)
      rcases Int.lt_or_gt_of_ne g' with c | c
      · rw [cmp_lt c]; simp [g]
      · rw [cmp_gt c]; simp [g]
  · rw [order_nan (.inl h)]
    have : top < rung x := by simpa [nanW] using h
    have g : rung x ≠ 0 := by omega
    simp [g]
theorem key_lt {x y : Nat} (hx : nanW x = false) (hy : nanW y = false) (h : ¬ (rung x = 0 ∧ rung y = 0)) : key x < key y ↔ skey x < skey y := by
  unfold key skey
  rw [hx, hy]
  simp only [Bool.false_eq_true, if_false]
  split <;> split <;> omega
theorem key_small {x : Nat} (hx : nanW x = false) : key x < 9223372036854775807 := by
  have h : ¬ top < rung x := by simpa [nanW] using hx
  unfold key
  rw [hx]
  simp only [Bool.false_eq_true, if_false]
  unfold top at h
  split <;> omega
theorem key_nan {x : Nat} (hx : nanW x = true) : key x = 9223372036854775807 := by unfold key; rw [hx]; rfl
/-- The document's order, as comparisons tell it: of any two but two zeros. -/
theorem ord_eq (x y : Nat) (h : ¬ (rung x = 0 ∧ rung y = 0)) : ord x y =
    if nanW x && nanW y then 0 else if (double.order x y == some .lt) || nanW y then -1 else if (double.order x y == some .gt) || nanW x then 1 else 0 := by
  cases hx : nanW x <;> cases hy : nanW y
  · rw [order_some hx hy]
    have l1 := key_lt hx hy h
    have l2 := key_lt hy hx (fun c => h ⟨c.2, c.1⟩)
    unfold ord
    rcases Int.lt_trichotomy (skey x) (skey y) with c | c | c
    · rw [cmp_lt c, if_pos (l1.2 c)]; rfl
    · rw [cmp_eq c, if_neg (by omega), if_neg (by omega)]; rfl
    · rw [cmp_gt c, if_neg (by omega), if_pos (l2.2 c)]; rfl
  · have := key_small hx
    unfold ord
    rw [key_nan hy, if_pos this]; simp
  · have := key_small hy
    unfold ord
    rw [key_nan hx, if_neg (by omega), if_pos (by omega), order_nan (.inl hx)]; rfl
  · unfold ord
    rw [key_nan hx, key_nan hy]; simp
theorem zero_words {x : Nat} (h : x < 2 ^ 64) (hr : rung x = 0) : x = 0 ∨ x = 9223372036854775808 := by unfold rung at hr; omega

theorem sum_comm (d e : Datum) : d.sum e = e.sum d := by
  cases d <;> cases e <;> simp only [Datum.sum]
  case number.number s m i t n j =>
    rw [Int.min_comm i j, Int.add_comm (signed s m _), Bool.and_comm s t]
  case infinity.infinity s t =>
    by_cases h : s = t
    · subst h; rfl
    · rw [if_neg h, if_neg (fun e => h e.symm)]
theorem add_comm (x y : Nat) : double.add x y = double.add y x := by unfold Format.add; rw [sum_comm]

/-- Exact: what a rung's value is written as, in whatever digits. -/
theorem cut_exact (way : Toward) (s : Bool) (a d : Nat) : way.cut s (a * 2 ^ d) d = a := by
  unfold Toward.cut
  have hg : 1 <<< min d ((a * 2 ^ d).log2 + 2) = 2 ^ min d ((a * 2 ^ d).log2 + 2) := by rw [Nat.shiftLeft_eq, Nat.one_mul]
  rcases Nat.eq_zero_or_pos a with z | z
  · subst z
    simp only [Nat.zero_mul, Nat.zero_div, Nat.zero_mod]
    cases way <;> simp
  · have hl : d ≤ (a * 2 ^ d).log2 := by
      rw [Nat.le_log2 (by have := Nat.mul_pos z (Nat.two_pow_pos d); omega)]
      exact Nat.le_mul_of_pos_left _ z
    rw [hg, Nat.min_eq_left (by omega)]
    simp only [Nat.mul_div_cancel _ (Nat.two_pow_pos d), Nat.mul_mod_left]
    have := Nat.two_pow_pos d
    cases way <;> simp

theorem log2_mul (m k : Nat) (h : m ≠ 0) : (m * 2 ^ k).log2 = m.log2 + k := by
  have hp := Nat.two_pow_pos k
  have hm : m * 2 ^ k ≠ 0 := by
    have := Nat.mul_pos (Nat.pos_of_ne_zero h) hp; omega
  rw [Nat.log2_eq_iff hm]
  obtain ⟨a, b⟩ := (Nat.log2_eq_iff h).1 rfl
  constructor
  · rw [Nat.pow_add]; exact Nat.mul_le_mul_right _ a
  · rw [show m.log2 + k + 1 = (m.log2 + 1) + k from by omega, Nat.pow_add]
    exact (Nat.mul_lt_mul_right hp).2 b

/-- How long a rung's value is, and what it is of its last kept place. -/
theorem val_log {r : Nat} (h0 : 0 < r) :
    ∃ k c : Nat, k = (val r).log2 - 52 ∧ val r = c * 2 ^ k ∧ k * 2 ^ 52 + c = r := by
  have hne : val r ≠ 0 := by have := val_pos h0; omega
  by_cases h : r < 2 ^ 52
  · have e : val r = r := by simp only [val]; rw [if_pos h]
    refine ⟨0, r, ?_, by rw [e]; simp, by simp⟩
    have : r.log2 < 52 := (Nat.log2_lt (by omega)).2 h
    rw [e]; omega
  · have hb := val_lt_of h
    have hm := Nat.mod_lt r (show 2 ^ 52 > 0 by decide)
    have e : val r = (2 ^ 52 + r % 2 ^ 52) * 2 ^ (r / 2 ^ 52 - 1) := by unfold val; rw [if_neg h]
    have l : (val r).log2 = 52 + (r / 2 ^ 52 - 1) := by
      rw [e, log2_mul _ _ (by omega)]
      congr 1
      rw [Nat.log2_eq_iff (by omega)]
      constructor
      · omega
      · rw [show (2 : Nat) ^ (52 + 1) = 2 ^ 52 + 2 ^ 52 from by decide]; omega
    refine ⟨r / 2 ^ 52 - 1, 2 ^ 52 + r % 2 ^ 52, by omega, e, ?_⟩
    omega

/-- A number that the format has, in whatever digits, is written as its rung. -/
theorem nearest_exact (s : Bool) {m k r : Nat} (hr : r < top) (h : m * 2 ^ k = val r) : double.nearest s m (-1074 + (k : Int)) = double.word s r := by
  rcases Nat.eq_zero_or_pos r with z | z
  · subst z
    have : m = 0 := by
      rw [val_zero] at h
      rcases Nat.mul_eq_zero.1 h with q | q
      · exact q
      · have := Nat.two_pow_pos k; omega
    subst this; rfl
  · have hv := val_pos z
    have hm : m ≠ 0 := by rintro rfl; simp at h; omega
    obtain ⟨j, c, hj, hc, hs⟩ := val_log z
    have hl : (val r).log2 = m.log2 + k := by rw [← h, log2_mul _ _ hm]
    unfold Format.nearest
    rw [if_neg hm]
    simp only [double_binade, double_inf, double_least]
    have e1 : max (-1074 + (k : Int) + (m.log2 : Int) - (double.fractionBits : Int)) (-1074) = -1074 + (j : Int) := by
      rw [show (double.fractionBits : Int) = 52 from rfl]; omega
    rw [e1]
    have e2 : (-1074 + (j : Int) - -1074).toNat = j := by omega
    have e3 : Toward.even.cut s (m <<< (-1074 + (k : Int) - (-1074 + (j : Int))).toNat) (-1074 + (j : Int) - (-1074 + (k : Int))).toNat = c := by
      rw [Nat.shiftLeft_eq]
      rcases Nat.le_total j k with g | g
      · have a1 : (-1074 + (k : Int) - (-1074 + (j : Int))).toNat = k - j := by omega
        have a2 : (-1074 + (j : Int) - (-1074 + (k : Int))).toNat = 0 := by omega
        have a3 : m * 2 ^ (k - j) = c := by
          have : m * 2 ^ (k - j) * 2 ^ j = c * 2 ^ j := by
            rw [Nat.mul_assoc, ← Nat.pow_add, Nat.sub_add_cancel g, h, hc]
          exact Nat.eq_of_mul_eq_mul_right (Nat.two_pow_pos j) this
        rw [a1, a2, a3]
        have := cut_exact .even s c 0
        simpa using this
      · have a1 : (-1074 + (k : Int) - (-1074 + (j : Int))).toNat = 0 := by omega
        have a2 : (-1074 + (j : Int) - (-1074 + (k : Int))).toNat = j - k := by omega
        have a3 : m = c * 2 ^ (j - k) := by
          have : m * 2 ^ k = c * 2 ^ (j - k) * 2 ^ k := by
            rw [Nat.mul_assoc, ← Nat.pow_add, Nat.sub_add_cancel g, h, hc]
          exact Nat.eq_of_mul_eq_mul_right (Nat.two_pow_pos k) this
        rw [a1, a2]
        simp only [Nat.pow_zero, Nat.mul_one]
        rw [a3]
        exact cut_exact .even s c (j - k)
    rw [e2, e3, hs, Nat.min_eq_left (by omega)]

/-- A word is its sign and its rung. -/
theorem word_of {x : Nat} (h : x < 2 ^ 64) : double.word (negW x) (rung x) = x := by
  unfold Format.word
  rw [double_sign]
  unfold negW rung
  by_cases g : x / 2 ^ 63 % 2 = 1
  · rw [if_pos (by simpa using g)]; omega
  · rw [if_neg (by simpa using g)]; omega
theorem rung_word (s : Bool) {r : Nat} (h : r < 2 ^ 63) : rung (double.word s r) = r := by
  unfold rung Format.word; rw [double_sign]; cases s <;> simp <;> omega
theorem negW_word (s : Bool) {r : Nat} (h : r < 2 ^ 63) : negW (double.word s r) = s := by
  unfold negW Format.word; rw [double_sign]; cases s
  · have : r / 2 ^ 63 = 0 := Nat.div_eq_of_lt h
    simp [this]
  · have : (2 ^ 63 + r) / 2 ^ 63 = 1 := by omega
    simp [this]

/-- A sum that the format has is that. -/
theorem add_num {x y r : Nat} (hx : rung x < top) (hy : rung y < top) (hr : r < top) (h : val r = (sval x + sval y).natAbs) :
    double.add x y = some (double.word (if sval x + sval y = 0 then negW x && negW y else decide (sval x + sval y < 0)) r) := by
  obtain ⟨m, p, k, h1, rfl, h3, h4, h5⟩ := read_over hx
  obtain ⟨n, q, l, g1, rfl, g3, g4, g5⟩ := read_over hy
  unfold Format.add
  rw [h1, g1]
  simp only [Datum.sum, Option.map_some]
  have e1 : (-1074 + (k : Int) - min (-1074 + (k : Int)) (-1074 + (l : Int))).toNat = k - min k l := by omega
  have e2 : (-1074 + (l : Int) - min (-1074 + (k : Int)) (-1074 + (l : Int))).toNat = l - min k l := by omega
  have e3 : min (-1074 + (k : Int)) (-1074 + (l : Int)) = -1074 + ((min k l : Nat) : Int) := by omega
  rw [e1, e2, e3]
  have a1 := h5 (min k l) (by omega)
  have a2 := g5 (min k l) (by omega)
  generalize signed (negW x) m (k - min k l) = u at *
  generalize signed (negW y) n (l - min k l) = v at *
  have hp := Nat.two_pow_pos (min k l)
  have hs : (u + v) * ((2 ^ min k l : Nat) : Int) = sval x + sval y := by rw [Int.add_mul, a1, a2]
  rw [← hs] at h ⊢
  have hz : (u + v) * ((2 ^ min k l : Nat) : Int) = 0 ↔ u + v = 0 := by
    constructor
    · intro e
      rcases Int.mul_eq_zero.1 e with q | q
      · exact q
      · omega
    · intro e; rw [e]; simp
  have hn : (u + v) * ((2 ^ min k l : Nat) : Int) < 0 ↔ u + v < 0 := by
    constructor
    · intro e
      have : (u + v) * ((2 ^ min k l : Nat) : Int) < 0 * ((2 ^ min k l : Nat) : Int) := by simpa using e
      exact Int.lt_of_mul_lt_mul_right this (by omega)
    · intro e
      have := Int.mul_lt_mul_of_pos_right e (show (0 : Int) < ((2 ^ min k l : Nat) : Int) by omega)
      simpa using this
  rw [Int.natAbs_mul, Int.natAbs_natCast] at h
  simp only [hz, hn]
  simp only [Format.write]
  rw [nearest_exact _ hr h.symm]
theorem sval_zero {x : Nat} (h : rung x = 0) : sval x = 0 := by unfold sval; rw [h, val_zero]; simp
theorem sval_eq_zero {x : Nat} (h : sval x = 0) : rung x = 0 := by
  rcases Nat.eq_zero_or_pos (rung x) with z | z
  · exact z
  · have := val_pos z; unfold sval at h; split at h <;> omega
theorem sval_natAbs (x : Nat) : (sval x).natAbs = val (rung x) := by unfold sval; split <;> omega
theorem sval_neg {x : Nat} (h : rung x ≠ 0) : decide (sval x < 0) = negW x := by
  have := val_pos (Nat.pos_of_ne_zero h)
  unfold sval; split <;> rename_i g
  · rw [g]; simp; omega
  · simp at g; rw [g]; simp
/-- Nought added: a zero with a minus alone is changed. -/
theorem add_zero {x : Nat} (h : x < 2 ^ 64) (hn : nanW x = false) : double.add x 0 = some (if rung x = 0 then 0 else x) := by
  have hx' : rung x ≤ top := by simpa [nanW] using hn
  by_cases i : rung x = top
  · unfold Format.add
    rw [read_inf i, show double.read 0 = .number false 0 (-1074) from by rw [read_eq]; rfl]
    simp only [Datum.sum, Option.map_some, Format.write, double_inf]
    have : rung x ≠ 0 := by rw [i]; decide
    rw [if_neg this, ← i, word_of h]
  · have z : sval 0 = 0 := sval_zero rfl
    have e := add_num (x := x) (y := 0) (r := rung x) (by omega) (by decide) (by omega) (by rw [z, Int.add_zero, sval_natAbs])
    rw [z, Int.add_zero] at e
    rw [e]
    by_cases g : rung x = 0
    · rw [if_pos (sval_zero g), g, if_pos rfl, show negW 0 = false from rfl]; simp; rfl
    · rw [if_neg (fun e => g (sval_eq_zero e)), if_neg g, sval_neg g, word_of h]

theorem nan_canonNaN : nanW canonNaN = true := by decide +kernel
theorem add_nan {x y : Nat} (h : nanW x = true ∨ nanW y = true) : double.add x y = none := by
  unfold Format.add
  rcases h with h | h
  · obtain ⟨s, t, e⟩ := read_nan h
    rw [e]; rfl
  · obtain ⟨s, t, e⟩ := read_nan h
    rw [e]
    cases double.read x <;> rfl
/-- Which NaN it is makes no odds. -/
theorem add_canon (x y : Nat) : double.add (canon x) y = double.add x y := by
  unfold canon
  split
  · rename_i h; rw [add_nan (.inl nan_canonNaN), add_nan (.inl h)]
  · rfl
theorem word_not_nan (s : Bool) {r : Nat} (h : r ≤ top) : nanW (double.word s r) = false := by
  unfold nanW; rw [rung_word s (Nat.lt_of_le_of_lt h (by decide))]; simpa using h
theorem write_not_nan {d : Datum} (h : d.isNaN = false) : nanW (double.write d) = false := by
  cases d with
  | nan => cases h
  | infinity s => exact word_not_nan s (by rw [double_inf]; omega)
  | number s m p =>
    simp only [Format.write, Format.nearest]
    split
    · exact word_not_nan s (by decide)
    · exact word_not_nan s (Nat.min_le_right _ _)
theorem add_not_nan {x y r : Nat} (h : double.add x y = some r) : nanW r = false := by
  unfold Format.add at h
  cases hs : (double.read x).sum (double.read y) with
  | none => rw [hs] at h; cases h
  | some d =>
    rw [hs] at h
    simp only [Option.map_some, Option.some.injEq] at h
    rw [← h]
    refine write_not_nan ?_
    revert hs
    cases double.read x <;> cases double.read y <;> simp only [Datum.sum] <;> intro hs <;> first | (cases hs; done) | (cases hs; rfl) | (split at hs <;> cases hs; rfl)

/-- The sum, one NaN for all. -/
def addC (x y : Nat) : Nat := (double.add x y).getD canonNaN
theorem addC_canon (x y : Nat) : addC (canon x) y = addC x y := by unfold addC; rw [add_canon]
theorem addC_comm (x y : Nat) : addC x y = addC y x := by unfold addC; rw [add_comm]
theorem canon_addC (x y : Nat) : canon (addC x y) = addC x y := by
  unfold addC
  cases h : double.add x y with
  | none => decide +kernel
  | some r => simp [canon, add_not_nan h]
theorem canon_lt {x : Nat} (h : x < 2 ^ 64) : canon x < 2 ^ 64 := by unfold canon; split; decide; exact h
theorem addC_lt (x y : Nat) : addC x y < 2 ^ 64 := by
  unfold addC
  cases h : double.add x y with
  | none => decide
  | some r => exact double.add_lt h
theorem canon_canon (x : Nat) : canon (canon x) = canon x := by
  unfold canon; by_cases h : nanW x
  · simp [h]
  · simp [h]
theorem nanW_canon (x : Nat) : nanW (canon x) = nanW x := by
  unfold canon; by_cases h : nanW x
  · simp [h, nan_canonNaN]
  · simp [h]

/-- A short number stands in the format at any place from the least on. -/
theorem exists_rung {m k : Nat} (hm : m < 2 ^ 53) (hk : k ≤ 1074) : ∃ r, r < top ∧ val r = m * 2 ^ k := by
  rcases Nat.eq_zero_or_pos m with z | z
  · subst z; exact ⟨0, by decide, by simp [val_zero]⟩
  · obtain ⟨a, b⟩ := (Nat.log2_eq_iff (k := m.log2) (Nat.pos_iff_ne_zero.1 z)).1 rfl
    have hl : m.log2 < 53 := (Nat.log2_lt (by omega)).2 hm
    by_cases g : m.log2 + k < 52
    · have hlt : m * 2 ^ k < 2 ^ 52 := by
        have h1 : m * 2 ^ k < 2 ^ (m.log2 + 1) * 2 ^ k := (Nat.mul_lt_mul_right (Nat.two_pow_pos k)).2 b
        rw [← Nat.pow_add] at h1
        exact Nat.lt_of_lt_of_le h1 (Nat.pow_le_pow_right (by decide) (by omega))
      exact ⟨m * 2 ^ k, Nat.lt_trans hlt (by decide), by simp only [val]; rw [if_pos hlt]⟩
    · -- m * 2 ^ k = (m * 2 ^ (52 - log)) * 2 ^ (k - (52 - log))
      have c1 : 2 ^ 52 ≤ m * 2 ^ (52 - m.log2) := by
        have := Nat.mul_le_mul_right (2 ^ (52 - m.log2)) a
        rwa [← Nat.pow_add, show m.log2 + (52 - m.log2) = 52 from by omega] at this
      have c2 : m * 2 ^ (52 - m.log2) < 2 ^ 53 := by
        have := (Nat.mul_lt_mul_right (Nat.two_pow_pos (52 - m.log2))).2 b
        rwa [← Nat.pow_add, show m.log2 + 1 + (52 - m.log2) = 53 from by omega] at this
      have c3 : m * 2 ^ k = m * 2 ^ (52 - m.log2) * 2 ^ (k - (52 - m.log2)) := by
        rw [Nat.mul_assoc, ← Nat.pow_add, show 52 - m.log2 + (k - (52 - m.log2)) = k from by omega]
      rw [c3]
      generalize m * 2 ^ (52 - m.log2) = c at c1 c2
      generalize hj : k - (52 - m.log2) = j
      have hj' : j ≤ 1074 := by omega
      have d1 : (2 : Nat) ^ 53 = 2 ^ 52 + 2 ^ 52 := by decide
      refine ⟨j * 2 ^ 52 + c, by unfold top; omega, ?_⟩
      unfold val
      rw [if_neg (by omega), show (j * 2 ^ 52 + c) / 2 ^ 52 - 1 = j from by omega, show 2 ^ 52 + (j * 2 ^ 52 + c) % 2 ^ 52 = c from by omega]

/-- The word of a whole number. -/
def ofInt (n : Int) : Nat := floatOfInt .f64 n
theorem ofInt_word {n : Int} (h : n.natAbs < 2 ^ 53) : ∃ r, r < top ∧ val r = n.natAbs * 2 ^ 1074 ∧ ofInt n = double.word (decide (n < 0)) r := by
  obtain ⟨r, h1, h2⟩ := exists_rung h (Nat.le_refl 1074)
  refine ⟨r, h1, h2, ?_⟩
  have := nearest_exact (decide (n < 0)) (m := n.natAbs) (k := 1074) h1 h2.symm
  rw [← this]; rfl
theorem ofInt_facts {n : Int} (h : n.natAbs < 2 ^ 53) : rung (ofInt n) < top ∧ sval (ofInt n) = n * ((2 ^ 1074 : Nat) : Int) ∧ negW (ofInt n) = decide (n < 0) := by
  obtain ⟨r, h1, h2, h3⟩ := ofInt_word h
  have ht : r < 2 ^ 63 := Nat.lt_trans h1 (by decide)
  have a := rung_word (decide (n < 0)) ht
  have b := negW_word (decide (n < 0)) ht
  rw [h3]
  refine ⟨by rw [a]; exact h1, ?_, b⟩
  unfold sval
  rw [a, b, h2]
  generalize (2 : Nat) ^ 1074 = q
  by_cases g : n < 0
  · simp only [g, decide_true, if_true]
    rw [Int.natCast_mul, ← Int.neg_mul]
    congr 1; omega
  · simp only [g, decide_false, Bool.false_eq_true, if_false]
    rw [Int.natCast_mul]
    congr 1; omega
theorem rung_ofInt {n : Int} (h : n.natAbs < 2 ^ 53) : rung (ofInt n) = 0 ↔ n = 0 := by
  obtain ⟨r, h1, h2, h3⟩ := ofInt_word h
  rw [h3, rung_word _ (Nat.lt_trans h1 (by decide))]
  have hp := Nat.two_pow_pos 1074
  generalize (2 : Nat) ^ 1074 = q at hp h2
  constructor
  · rintro rfl
    rw [val_zero] at h2
    rcases Nat.mul_eq_zero.1 h2.symm with z | z <;> omega
  · rintro rfl
    rcases Nat.eq_zero_or_pos r with z | z
    · exact z
    · have := val_pos z
      simp at h2
      omega
theorem ofInt_lt (n : Int) : ofInt n < 2 ^ 64 := double.write_lt (.number (decide (n < 0)) n.natAbs 0)
/-- Whole numbers of up to 53 binary digits are added as they are. -/
theorem add_ofInt {a b : Int} (ha : a.natAbs < 2 ^ 53) (hb : b.natAbs < 2 ^ 53) (hab : (a + b).natAbs < 2 ^ 53) : double.add (ofInt a) (ofInt b) = some (ofInt (a + b)) := by
  obtain ⟨a1, a2, a3⟩ := ofInt_facts ha
  obtain ⟨b1, b2, b3⟩ := ofInt_facts hb
  obtain ⟨r, h1, h2, h3⟩ := ofInt_word hab
  have hs : sval (ofInt a) + sval (ofInt b) = (a + b) * ((2 ^ 1074 : Nat) : Int) := by rw [a2, b2, Int.add_mul]
  have e := add_num a1 b1 h1 (by rw [hs, Int.natAbs_mul, Int.natAbs_natCast, h2])
  rw [e, h3]
  congr 1
  congr 1
  rw [hs, a3, b3]
  have hp : 0 < ((2 ^ 1074 : Nat) : Int) := by have := Nat.two_pow_pos 1074; omega
  generalize ((2 ^ 1074 : Nat) : Int) = q at hp
  have z : (a + b) * q = 0 ↔ a + b = 0 := by
    constructor
    · intro e
      rcases Int.mul_eq_zero.1 e with q | q <;> omega
    · intro e; rw [e]; simp
  have l : (a + b) * q < 0 ↔ a + b < 0 := by
    constructor
    · intro e
      have : (a + b) * q < 0 * q := by simpa using e
      exact Int.lt_of_mul_lt_mul_right this (by omega)
    · intro e
      have := Int.mul_lt_mul_of_pos_right e hp
      simpa using this
  simp only [z, l]
  by_cases g : a + b = 0
  · rw [if_pos g]
    by_cases c : a < 0
    · simp only [c, decide_true, Bool.true_and]
      rw [show (decide (b < 0)) = false from by simp; omega]; simp [g]
    · simp [c, g]
  · rw [if_neg g]

/-- The sign turned. -/
def negF (x : Nat) : Nat := x ^^^ 2 ^ 63
theorem negF_word (s : Bool) {r : Nat} (h : r < 2 ^ 63) : negF (double.word s r) = double.word (!s) r := by
  unfold negF Format.word
  rw [double_sign]
  have e : r ^^^ 2 ^ 63 = 2 ^ 63 + r := by
    have := Nat.two_pow_add_eq_or_of_lt h 1
    rw [Nat.mul_one] at this
    rw [this]
    apply Nat.eq_of_testBit_eq
    intro i
    rw [Nat.testBit_xor, Nat.testBit_or]
    by_cases g : i = 63
    · subst g; rw [Nat.testBit_lt_two_pow h]; simp
    · rw [Nat.testBit_two_pow_of_ne (Ne.symm g)]; simp
  cases s
  · simpa using e
  · simp only [if_true, Bool.not_true, Bool.false_eq_true, if_false]
    rw [← e, Nat.xor_assoc, Nat.xor_self, Nat.xor_zero]
theorem negF_ofInt {n : Int} (h : n.natAbs < 2 ^ 53) (h0 : n ≠ 0) : negF (ofInt n) = ofInt (-n) := by
  obtain ⟨r, h1, h2, h3⟩ := ofInt_word h
  obtain ⟨q, g1, g2, g3⟩ := ofInt_word (n := -n) (by omega)
  rw [show (-n).natAbs = n.natAbs from by omega, ← h2] at g2
  rw [h3, g3, negF_word _ (Nat.lt_trans h1 (by decide)), val_inj g2]
  congr 1
  by_cases g : n < 0 <;> simp [g] <;> omega
theorem negF_zero : negF (ofInt 0) = 2 ^ 63 := by decide +kernel
/-- A number and its opposite, added one by one. -/
theorem add_back {a b : Int} (ha : a.natAbs ≤ 2 ^ 31) (hb : b.natAbs ≤ 2 ^ 31) (h0 : a ≠ 0) : double.add (ofInt (a + b)) (negF (ofInt b)) = some (ofInt a) := by
  by_cases hb0 : b = 0
  · subst hb0
    obtain ⟨r, h1, h2, h3⟩ := ofInt_word (n := a) (by omega)
    obtain ⟨a1, a2, a3⟩ := ofInt_facts (n := a) (by omega)
    rw [Int.add_zero, negF_zero]
    have z : sval (2 ^ 63) = 0 := sval_zero (by decide)
    have hr0 : rung (ofInt a) ≠ 0 := by
      rw [h3, rung_word _ (Nat.lt_trans h1 (by decide))]
      rintro rfl
      rw [val_zero] at h2
      have := Nat.two_pow_pos 1074
      generalize (2 : Nat) ^ 1074 = q at *
      rcases Nat.mul_eq_zero.1 h2.symm with q | q <;> omega
    have e := add_num (x := ofInt a) (y := 2 ^ 63) (r := rung (ofInt a)) a1 (by decide) a1 (by rw [z, Int.add_zero, sval_natAbs])
    rw [e, z, Int.add_zero, if_neg (fun e => hr0 (sval_eq_zero e)), sval_neg hr0, word_of (ofInt_lt a)]
  · rw [negF_ofInt (by omega) hb0]
    have := add_ofInt (a := a + b) (b := -b) (by omega) (by omega) (by omega)
    rw [this]
    congr 2
    omega
end Go.Proofs.Ytpkglclhopamcaa.Flt
