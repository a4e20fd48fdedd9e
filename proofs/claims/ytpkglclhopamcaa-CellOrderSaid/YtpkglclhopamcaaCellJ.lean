/- The statements CellOrder, CellBack and CellTwice, walked. -/
import Derived.Test.YtpkglclhopamcaaCellI
namespace Go.Proofs.Ytpkglclhopamcaa
open Go.RowKit

/-! The order as whole numbers. -/
theorem ord_swap (x y : Nat) : Flt.ord x y = -Flt.ord y x := by
  unfold Flt.ord; split <;> split <;> (try split) <;> omega
theorem ord_pos (x y : Nat) : 0 < Flt.ord x y ↔ Flt.key y < Flt.key x := by
  unfold Flt.ord; split <;> (try split) <;> omega
theorem ord_zero (x y : Nat) : Flt.ord x y = 0 ↔ Flt.key x = Flt.key y := by
  unfold Flt.ord; split <;> (try split) <;> omega
theorem key_canon (x : Nat) : Flt.key (Flt.canon x) = Flt.key x := by
  unfold Flt.canon
  split
  · rename_i h; rw [Flt.key_nan h]; decide +kernel
  · rfl
/-- One place in the row: one float, but for NaN. -/
theorem key_eq {x y : Nat} (hx : x < 2 ^ 64) (hy : y < 2 ^ 64) : Flt.key x = Flt.key y ↔ Flt.canon x = Flt.canon y := by
  constructor
  · intro h
    unfold Flt.canon
    cases hn : Flt.nanW x <;> cases hm : Flt.nanW y
    · simp only [Bool.false_eq_true, if_false]
      have h' := h
      unfold Flt.key Flt.negW Flt.rung at h'
      rw [hn, hm] at h'
      simp only [Bool.false_eq_true, if_false, beq_iff_eq] at h'
      split at h' <;> split at h' <;> omega
    · have := Flt.key_small hn; rw [Flt.key_nan hm] at h; omega
    · have := Flt.key_small hm; rw [Flt.key_nan hn] at h; omega
    · rfl
  · intro h
    rw [← key_canon x, ← key_canon y, h]

theorem neq_diff (a : Int) (x y : Nat) (h : a = 0 ↔ x = y) : ((a == 0) == ((x : Int) == (y : Int))) = true := by
  have e : ((x : Int) == (y : Int)) = decide (x = y) := by
    rw [Bool.eq_iff_iff]; simp; omega
  have e2 : (a == 0) = decide (a = 0) := by rw [Bool.eq_iff_iff]; simp
  rw [e, e2]
  simp [h]

set_option maxRecDepth 100000 in
set_option maxHeartbeats 4000000 in
theorem walkCellOrder (x y z : Nat) (w : World) (hx : x < 2 ^ 64) (hy : y < 2 ^ 64) (hz : z < 2 ^ 64) : Calls Try.prog 5 #[.float .f64 x, .float .f64 y, .float .f64 z] w fun e w' => e = .returned (.bool true) ∧ Below w.heap.size w w' := by
  have o1 := order_any x y hx hy
  have o2 := refOrder_any x y hx hy
  have o3 := order_any y x hy hx
  have o4 := order_any y z hy hz
  have o5 := order_any x z hx hz
  have b1 := ord_swap x y
  have b2 : Flt.ord x y = 0 ↔ Flt.canon x = Flt.canon y := (ord_zero x y).trans (key_eq hx hy)
  have b3 : ¬ 0 < Flt.ord x y → ¬ 0 < Flt.ord y z → Flt.ord x z ≤ 0 := by
    intro h1 h2
    have := ord_pos x y
    have := ord_pos y z
    have := ord_pos x z
    omega
  have b4 : -1 ≤ Flt.ord x y ∧ Flt.ord x y ≤ 1 := by unfold Flt.ord; split <;> (try split) <;> omega
  generalize Flt.ord x y = p at *
  generalize Flt.ord y x = q at *
  generalize Flt.ord y z = r at *
  generalize Flt.ord x z = s at *
  obtain rfl : q = -p := by omega
  have hd := neq_diff p _ _ b2
  obtain ⟨p1, p2⟩ := b4
  have O1 := Lib.hid o1
  have O2 := Lib.hid o2
  have O3 := Lib.hid o3
  have O4 := Lib.hid o4
  have O5 := Lib.hid o5
  clear o1 o2 o3 o4 o5 hx hy hz b2 b1
  by_cases h1 : 0 < p
  · clear b3
    go_enter Try.func5, Try.ntmps5
    go_wp2_with fail
    refine (awake_any _).mono ?_
    rintro e w1 ⟨rfl, hb1⟩
    go_wp2_with (first
      | (go_at_call 20; refine (O2.out _).mono ?_; rintro e w2 ⟨rfl, rfl⟩)
      | (go_at_call 15; refine (refBits_any _ _).mono ?_; rintro e w2 ⟨rfl, rfl⟩)
      | ((with_reducible refine (O1.out _).mono ?_); rintro e w2 ⟨rfl, rfl⟩)
      | ((with_reducible refine (O3.out _).mono ?_); rintro e w2 ⟨rfl, rfl⟩)
      | ((with_reducible refine (O4.out _).mono ?_); rintro e w2 ⟨rfl, rfl⟩)
      | ((with_reducible refine (O5.out _).mono ?_); rintro e w2 ⟨rfl, rfl⟩))
    go_ret
    exact ⟨rfl, hb1⟩
  · by_cases h2 : 0 < r
    · clear b3
      go_enter Try.func5, Try.ntmps5
      go_wp2_with fail
      refine (awake_any _).mono ?_
      rintro e w1 ⟨rfl, hb1⟩
      go_wp2_with (first
        | (go_at_call 20; refine (O2.out _).mono ?_; rintro e w2 ⟨rfl, rfl⟩)
        | (go_at_call 15; refine (refBits_any _ _).mono ?_; rintro e w2 ⟨rfl, rfl⟩)
        | ((with_reducible refine (O1.out _).mono ?_); rintro e w2 ⟨rfl, rfl⟩)
        | ((with_reducible refine (O3.out _).mono ?_); rintro e w2 ⟨rfl, rfl⟩)
        | ((with_reducible refine (O4.out _).mono ?_); rintro e w2 ⟨rfl, rfl⟩)
        | ((with_reducible refine (O5.out _).mono ?_); rintro e w2 ⟨rfl, rfl⟩))
      go_ret
      exact ⟨rfl, hb1⟩
    · have h3 := b3 h1 h2
      clear b3
      go_enter Try.func5, Try.ntmps5
      go_wp2_with fail
      refine (awake_any _).mono ?_
      rintro e w1 ⟨rfl, hb1⟩
      go_wp2_with (first
        | (go_at_call 20; refine (O2.out _).mono ?_; rintro e w2 ⟨rfl, rfl⟩)
        | (go_at_call 15; refine (refBits_any _ _).mono ?_; rintro e w2 ⟨rfl, rfl⟩)
        | ((with_reducible refine (O1.out _).mono ?_); rintro e w2 ⟨rfl, rfl⟩)
        | ((with_reducible refine (O3.out _).mono ?_); rintro e w2 ⟨rfl, rfl⟩)
        | ((with_reducible refine (O4.out _).mono ?_); rintro e w2 ⟨rfl, rfl⟩)
        | ((with_reducible refine (O5.out _).mono ?_); rintro e w2 ⟨rfl, rfl⟩))
      go_ret
      exact ⟨rfl, hb1⟩

end Go.Proofs.Ytpkglclhopamcaa
