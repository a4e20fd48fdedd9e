/- Package cell: which float is none, the one NaN for all, infinities and signs. -/
import Derived.Test.YtpkglclhopamcaaRows
import Derived.Test.YtpkglclhopamcaaFlt
import Derived.Test.YtpkglclhopamcaaBase
import Derived.Laws.Externs
namespace Go.Proofs.Ytpkglclhopamcaa
open Go.RowKit

/-- The two calls that have no body: the bits of a float, and the float of bits. -/
theorem run_bits (x : Nat) (w : World) : (callFunc 17 #[.float .f64 x]).run Try.prog w = .ok (.value (.int .u64 x)) w := by
  rw [run_callFunc_extern Try.func17 (by kernel_rfl) (by kernel_rfl) (by kernel_rfl) (e := Extern.MathFloatBits.float64bits) (by kernel_rfl)]; rfl
theorem run_frombits (n : Int) (w : World) : (callFunc 29 #[.int .u64 n]).run Try.prog w = .ok (.value (.float .f64 n.toNat)) w := by
  rw [run_callFunc_extern Try.func29 (by kernel_rfl) (by kernel_rfl) (by kernel_rfl) (e := Extern.MathFloatBits.float64frombits) (by kernel_rfl)]; rfl
attribute [go_sem] run_bits run_frombits

theorem order_neq_self (x : Nat) : (Ieee.double.order x x != some .eq) = Flt.nanW x := by
  rw [Flt.order_self]; cases Flt.nanW x <;> rfl

theorem isNaN_any (x : Nat) (w : World) :
    Calls Try.prog 30 #[.float .f64 x] w fun e w' => e = .returned (.bool (Flt.nanW x)) ∧ w = w' := by
  go_enter Try.func30, Try.ntmps30
  go_wp2
  go_ret
  exact ⟨by rw [← order_neq_self]; rfl, rfl⟩

theorem canonical_any (x : Nat) (w : World) :
    Calls Try.prog 28 #[.float .f64 x] w fun e w' => e = .returned (.float .f64 (Flt.canon x)) ∧ w = w' := by
  unfold Flt.canon
  cases h : Flt.nanW x
  · have hH := Lib.hid h
    clear h
    go_enter Try.func28, Try.ntmps28
    go_wp2_with fail
    refine (isNaN_any _ _).mono ?_
    rintro e w1 ⟨rfl, rfl⟩
    rw [hH.out]
    go_wp2
    go_ret
    exact ⟨rfl, rfl⟩
  · have hH := Lib.hid h
    clear h
    go_enter Try.func28, Try.ntmps28
    go_wp2_with fail
    refine (isNaN_any _ _).mono ?_
    rintro e w1 ⟨rfl, rfl⟩
    rw [hH.out]
    go_wp2
    go_ret
    exact ⟨rfl, rfl⟩
end Go.Proofs.Ytpkglclhopamcaa
