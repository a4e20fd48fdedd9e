/- Package cell: the order of two floats, as the document has it. -/
import Derived.Test.YtpkglclhopamcaaCellB
namespace Go.Proofs.Ytpkglclhopamcaa
open Go.RowKit

theorem quo_run {a b r : Nat} (h : Ieee.double.div a b = some r) (w : World) : (binOp .quo 22 (.float .f64 a) (.float .f64 b)).run Try.prog w = .ok (.float .f64 r) w :=
  run_float_arith w .quo 22 .f64 a b r h

set_option maxRecDepth 100000 in
/-- Two zeros are told by the infinities that 1 makes of them. -/
theorem order_zeros (x y x' y' : Nat) (hx : Ieee.double.div 4607182418800017408 x = some x') (hy : Ieee.double.div 4607182418800017408 y = some y')
    (zx : (FloatKind.f64.format.order x 0 == some .eq) = true) (zy : (FloatKind.f64.format.order y 0 == some .eq) = true)
    (nx : Flt.nanW x' = false) (ny : Flt.nanW y' = false) (l g : Bool) (hl : (FloatKind.f64.format.order x' y' == some .lt) = l) (hg : (FloatKind.f64.format.order x' y' == some .gt) = g) (w : World) :
    Calls Try.prog 19 #[.float .f64 x, .float .f64 y] w fun e w' => e = .returned (.int .i64 (if l then -1 else if g then 1 else 0)) ∧ w = w' := by
  have q1 := fun w => quo_run hx w
  have q2 := fun w => quo_run hy w
  clear hx hy
  cases l <;> cases g
  all_goals
    go_enter Try.func19, Try.ntmps19
    go_wp2_with (go_at_call 30; refine (isNaN_any _ _).mono ?_; rintro e w1 ⟨rfl, rfl⟩)
    go_ret
    exact ⟨rfl, rfl⟩

set_option maxRecDepth 100000 in
/-- Others are told by comparisons. -/
theorem order_others (x y : Nat) (zx zy nx ny l g : Bool) (hz : (zx && zy) = false)
    (hzx : (FloatKind.f64.format.order x 0 == some .eq) = zx) (hzy : (FloatKind.f64.format.order y 0 == some .eq) = zy)
    (hnx : Flt.nanW x = nx) (hny : Flt.nanW y = ny) (hl : (FloatKind.f64.format.order x y == some .lt) = l) (hg : (FloatKind.f64.format.order x y == some .gt) = g) (w : World) :
    Calls Try.prog 19 #[.float .f64 x, .float .f64 y] w fun e w' => e = .returned (.int .i64 (if nx && ny then 0 else if l || ny then -1 else if g || nx then 1 else 0)) ∧ w = w' := by
  cases zx <;> cases zy <;> first | (cases hz; done) | skip
  all_goals
    clear hz
    cases nx <;> cases ny <;> cases l <;> cases g
  all_goals
    go_enter Try.func19, Try.ntmps19
    go_wp2_with (go_at_call 30; refine (isNaN_any _ _).mono ?_; rintro e w1 ⟨rfl, rfl⟩)
    go_ret
    exact ⟨rfl, rfl⟩

theorem div_zero : Ieee.double.div 4607182418800017408 0 = some 9218868437227405312 := by decide +kernel
theorem div_minus : Ieee.double.div 4607182418800017408 9223372036854775808 = some 18442240474082181120 := by decide +kernel

theorem order_any (x y : Nat) (hx : x < 2 ^ 64) (hy : y < 2 ^ 64) (w : World) :
    Calls Try.prog 19 #[.float .f64 x, .float .f64 y] w fun e w' => e = .returned (.int .i64 (Flt.ord x y)) ∧ w = w' := by
  by_cases h : Flt.rung x = 0 ∧ Flt.rung y = 0
  · have z : ∀ u : Nat, u = 0 ∨ u = 9223372036854775808 → (FloatKind.f64.format.order u 0 == some .eq) = true := by
      rintro u (rfl | rfl) <;> decide +kernel
    have hX := Flt.zero_words hx h.1
    have hY := Flt.zero_words hy h.2
    have zx := z x hX
    have zy := z y hY
    rcases hX with rfl | rfl <;> rcases hY with rfl | rfl
    · exact order_zeros 0 0 _ _ div_zero div_zero zx zy (by decide +kernel) (by decide +kernel) false false (by decide +kernel) (by decide +kernel) w
    · exact order_zeros 0 9223372036854775808 _ _ div_zero div_minus zx zy (by decide +kernel) (by decide +kernel) false true (by decide +kernel) (by decide +kernel) w
    · exact order_zeros 9223372036854775808 0 _ _ div_minus div_zero zx zy (by decide +kernel) (by decide +kernel) true false (by decide +kernel) (by decide +kernel) w
    · exact order_zeros 9223372036854775808 9223372036854775808 _ _ div_minus div_minus zx zy (by decide +kernel) (by decide +kernel) false false (by decide +kernel) (by decide +kernel) w
  · rw [Flt.ord_eq x y h]
    refine order_others x y _ _ _ _ _ _ ?_ rfl rfl rfl rfl rfl rfl w
    rw [show FloatKind.f64.format = Ieee.double from rfl, Flt.rung_zero_of, Flt.rung_zero_of]
    simpa using h
end Go.Proofs.Ytpkglclhopamcaa
