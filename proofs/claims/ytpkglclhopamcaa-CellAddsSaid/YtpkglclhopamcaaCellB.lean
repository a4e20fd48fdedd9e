/- The document's words on floats (careenref02): NaN, Bits, key, Order; math.Inf. -/
import Derived.Test.YtpkglclhopamcaaCellA
import Derived.Test.YtpkglclhopamcaaBase
namespace Go.Proofs.Ytpkglclhopamcaa
open Go.RowKit

theorem nan_shl (x : Nat) : decide ((x : Int) * 2 % 18446744073709551616 > 18437736874454810624) = Flt.nanW x := by
  unfold Flt.nanW
  have e : ((x : Int) * 2 % 18446744073709551616 > 18437736874454810624) ↔ Flt.top < Flt.rung x := by
    unfold Flt.top Flt.rung; omega
  simp only [e]

set_option maxRecDepth 100000 in
theorem refNaN_any (x : Nat) (w : World) :
    Calls Try.prog 25 #[.float .f64 x] w fun e w' => e = .returned (.bool (Flt.nanW x)) ∧ w = w' := by
  have hH := Lib.hid (nan_shl x)
  go_enter Try.func25, Try.ntmps25
  go_wp2
  go_ret
  exact ⟨by rw [← hH.out]; rfl, rfl⟩

theorem refBits_any (x : Nat) (w : World) :
    Calls Try.prog 15 #[.float .f64 x] w fun e w' => e = .returned (.int .u64 (Flt.canon x : Nat)) ∧ w = w' := by
  unfold Flt.canon
  cases h : Flt.nanW x
  all_goals
    have hH := Lib.hid h
    clear h
    go_enter Try.func15, Try.ntmps15
    go_wp2_with fail
    refine (refNaN_any _ _).mono ?_
    rintro e w1 ⟨rfl, rfl⟩
    rw [hH.out]
    go_wp2
    go_ret
    exact ⟨rfl, rfl⟩

theorem inf_any (n : Int) (w : World) :
    Calls Try.prog 26 #[.int .i64 n] w fun e w' => e = .returned (.float .f64 (if 0 ≤ n then 9218868437227405312 else 18442240474082181120)) ∧ w = w' := by
  by_cases h : 0 ≤ n
  all_goals
    go_enter Try.func26, Try.ntmps26
    go_wp2
    go_ret
    exact ⟨rfl, rfl⟩

set_option maxRecDepth 100000 in
theorem refKey_any (x : Nat) (hx : x < 2 ^ 64) (w : World) :
    Calls Try.prog 31 #[.float .f64 x] w fun e w' => e = .returned (.int .i64 (Flt.key x)) ∧ w = w' := by
  have hx' : (x : Int) < 18446744073709551616 := by omega
  cases h : Flt.nanW x
  · have hc : Flt.canon x = x := by unfold Flt.canon; rw [h]; rfl
    have hH := Lib.hid h
    have hC := Lib.hid hc
    clear h hc
    by_cases hn : 9223372036854775808 ≤ (x : Int)
    · have hk : Hid (Flt.key x = -1 - ((x : Int) - 9223372036854775808)) := by
        show _ = _
        unfold Flt.key Flt.negW Flt.rung
        rw [hH.out, show x / 2 ^ 63 % 2 = 1 from by omega]
        simp; omega
      go_enter Try.func31, Try.ntmps31
      go_wp2_with fail
      refine (refBits_any _ _).mono ?_
      rintro e w1 ⟨rfl, rfl⟩
      rw [hC.out]
      go_wp2_with fail
      refine (refNaN_any _ _).mono ?_
      rintro e w1 ⟨rfl, rfl⟩
      rw [hH.out]
      go_wp2
      go_ret
      exact ⟨by rw [hk.out]; rfl, rfl⟩
    · have hn' : (x : Int) < 9223372036854775808 := by omega
      have hk : Hid (Flt.key x = (x : Int)) := by
        show _ = _
        unfold Flt.key Flt.negW Flt.rung
        rw [hH.out, show x / 2 ^ 63 % 2 = 0 from by omega]
        simp; omega
      have hw : IntKind.i64.wrap (x : Int) = x := IntWalk.i64_in _ (by omega)
      have hd : decide ((x : Int) ≥ 9223372036854775808) = false := by simp; omega
      clear hn hx' hn'
      go_enter Try.func31, Try.ntmps31
      go_wp2_with fail
      refine (refBits_any _ _).mono ?_
      rintro e w1 ⟨rfl, rfl⟩
      rw [hC.out]
      go_wp2_with fail
      refine (refNaN_any _ _).mono ?_
      rintro e w1 ⟨rfl, rfl⟩
      rw [hH.out]
      go_wp2
      go_ret
      exact ⟨by rw [hk.out]; rfl, rfl⟩
  · have hk := Lib.hid (Flt.key_nan h)
    have hH := Lib.hid h
    clear h
    go_enter Try.func31, Try.ntmps31
    go_wp2_with fail
    refine (refBits_any _ _).mono ?_
    rintro e w1 ⟨rfl, rfl⟩
    go_wp2_with fail
    refine (refNaN_any _ _).mono ?_
    rintro e w1 ⟨rfl, rfl⟩
    rw [hH.out]
    go_wp2
    go_ret
    exact ⟨by rw [hk.out]; rfl, rfl⟩

set_option maxRecDepth 100000 in
theorem refOrder_any (x y : Nat) (hx : x < 2 ^ 64) (hy : y < 2 ^ 64) (w : World) :
    Calls Try.prog 20 #[.float .f64 x, .float .f64 y] w fun e w' => e = .returned (.int .i64 (Flt.ord x y)) ∧ w = w' := by
  unfold Flt.ord
  have k1 := refKey_any x hx
  have k2 := refKey_any y hy
  generalize Flt.key x = a at *
  generalize Flt.key y = b at *
  have K1 := Lib.hid k1
  have K2 := Lib.hid k2
  clear k1 k2 hx hy
  rcases Int.lt_trichotomy a b with c | c | c
  · rw [if_pos c]
    go_enter Try.func20, Try.ntmps20
    go_wp2_with fail
    refine (K1.out _).mono ?_
    rintro e w1 ⟨rfl, rfl⟩
    go_wp2_with fail
    refine (K2.out _).mono ?_
    rintro e w1 ⟨rfl, rfl⟩
    go_wp2
    go_ret
    exact ⟨rfl, rfl⟩
  · rw [if_neg (by omega), if_neg (by omega)]
    subst c
    go_enter Try.func20, Try.ntmps20
    go_wp2_with fail
    refine (K1.out _).mono ?_
    rintro e w1 ⟨rfl, rfl⟩
    go_wp2_with fail
    refine (K2.out _).mono ?_
    rintro e w1 ⟨rfl, rfl⟩
    go_wp2
    go_ret
    exact ⟨rfl, rfl⟩
  · rw [if_neg (by omega), if_pos (by omega)]
    have c' : ¬ a < b := by omega
    go_enter Try.func20, Try.ntmps20
    go_wp2_with fail
    refine (K1.out _).mono ?_
    rintro e w1 ⟨rfl, rfl⟩
    go_wp2_with fail
    refine (K2.out _).mono ?_
    rintro e w1 ⟨rfl, rfl⟩
    go_wp2
    go_ret
    exact ⟨rfl, rfl⟩

end Go.Proofs.Ytpkglclhopamcaa
