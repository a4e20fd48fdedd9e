/- The statements CellBytes and CellAdds, walked. -/
import Derived.Test.YtpkglclhopamcaaCellH
namespace Go.Proofs.Ytpkglclhopamcaa
open Go.RowKit

theorem float_zero_eq : (FloatKind.f64.format.order 0 0 == some .eq) = true := by decide +kernel

set_option maxRecDepth 100000 in
set_option maxHeartbeats 4000000 in
theorem cellBytes_long (x : Nat) (s : ByteArray) (w : World) (hl : (100 : Int) < s.size) : Calls Try.prog 3 #[.float .f64 x, .string s] w fun e w' => e = .returned (.bool true) ∧ Below w.heap.size w w' := by
  go_enter Try.func3, Try.ntmps3
  go_wp2_with fail
  refine (awake_any _).mono ?_
  rintro e w1 ⟨rfl, hb1⟩
  go_wp2_with fail
  refine (awake_any _).mono ?_
  rintro e w2 ⟨rfl, hb2⟩
  go_wp2
  go_ret
  exact ⟨rfl, below2 hb1 hb2⟩

set_option maxRecDepth 100000 in
set_option maxHeartbeats 4000000 in
theorem cellBytes_no (x : Nat) (s : ByteArray) (w : World) (hl : (s.size : Int) ≤ 100) (h8 : ((s.size : Int) != 8) = true) : Calls Try.prog 3 #[.float .f64 x, .string s] w fun e w' => e = .returned (.bool true) ∧ Below w.heap.size w w' := by
  have hz := float_zero_eq
  go_enter Try.func3, Try.ntmps3
  go_wp2_with fail
  refine (awake_any _).mono ?_
  rintro e w1 ⟨rfl, hb1⟩
  go_wp2_with fail
  refine (float_no _ _ h8).mono ?_
  rintro e w2 ⟨rfl, rfl⟩
  go_wp2_with fail
  refine (bytes_any _ _).mono ?_
  rintro e w2 ⟨rfl, hb2⟩
  go_wp2_with fail
  refine (refBytes_any _ _).mono ?_
  rintro e w3 ⟨rfl, hb3⟩
  go_wp2
  go_ret
  exact ⟨rfl, below2 (below2 hb1 hb2) hb3⟩

set_option maxRecDepth 100000 in
set_option maxHeartbeats 4000000 in
theorem cellBytes_yes (x : Nat) (s : ByteArray) (w : World) (h : s.size = 8) : Calls Try.prog 3 #[.float .f64 x, .string s] w fun e w' => e = .returned (.bool true) ∧ Below w.heap.size w w' := by
  have hl : (s.size : Int) ≤ 100 := by omega
  have h8 : ((s.size : Int) != 8) = false := by rw [h]; rfl
  have H := Lib.hid h
  have hC := Flt.canon_canon (num8 s)
  clear h
  go_enter Try.func3, Try.ntmps3
  go_wp2_with fail
  refine (awake_any _).mono ?_
  rintro e w1 ⟨rfl, hb1⟩
  go_wp2_with fail
  refine (float_any _ _ H.out).mono ?_
  rintro e w2 ⟨rfl, rfl⟩
  go_wp2_with fail
  refine (bytes_any _ _).mono ?_
  rintro e w2 ⟨rfl, hb2⟩
  go_wp2_with fail
  refine (refBytes_any _ _).mono ?_
  rintro e w3 ⟨rfl, hb3⟩
  go_wp2_with fail
  refine (refBits_any _ _).mono ?_
  rintro e w4 ⟨rfl, rfl⟩
  go_wp2_with fail
  refine (refFloat_any _ _ H.out).mono ?_
  rintro e w4 ⟨rfl, rfl⟩
  go_wp2_with fail
  refine (refBits_any _ _).mono ?_
  rintro e w4 ⟨rfl, rfl⟩
  go_wp2_with fail
  refine (refBits_any _ _).mono ?_
  rintro e w4 ⟨rfl, rfl⟩
  go_wp2
  go_ret
  exact ⟨rfl, below2 (below2 hb1 hb2) hb3⟩

theorem walkCellBytes (x : Nat) (s : ByteArray) (w : World) (_ : x < 2 ^ 64) (_ : s.size ≤ maxLen) : Calls Try.prog 3 #[.float .f64 x, .string s] w fun e w' => e = .returned (.bool true) ∧ Below w.heap.size w w' := by
  by_cases h : s.size = 8
  · exact cellBytes_yes x s w h
  · by_cases hl : s.size ≤ 100
    · exact cellBytes_no x s w (by omega) (by simp; omega)
    · exact cellBytes_long x s w (by omega)

set_option maxRecDepth 100000 in
set_option maxHeartbeats 4000000 in
theorem cellAdds_long (s : ByteArray) (x : Nat) (w : World) (hl : (100 : Int) < s.size) : Calls Try.prog 4 #[.string s, .float .f64 x] w fun e w' => e = .returned (.bool true) ∧ Below w.heap.size w w' := by
  go_enter Try.func4, Try.ntmps4
  go_wp2_with fail
  refine (awake_any _).mono ?_
  rintro e w1 ⟨rfl, hb1⟩
  go_wp2_with fail
  refine (awake_any _).mono ?_
  rintro e w2 ⟨rfl, hb2⟩
  go_wp2
  go_ret
  exact ⟨rfl, below2 hb1 hb2⟩

set_option maxRecDepth 100000 in
set_option maxHeartbeats 4000000 in
theorem cellAdds_no (s : ByteArray) (x : Nat) (w : World) (hl : (s.size : Int) ≤ 100) (h8 : ((s.size : Int) != 8) = true) : Calls Try.prog 4 #[.string s, .float .f64 x] w fun e w' => e = .returned (.bool true) ∧ Below w.heap.size w w' := by
  go_enter Try.func4, Try.ntmps4
  go_wp2_with fail
  refine (awake_any _).mono ?_
  rintro e w1 ⟨rfl, hb1⟩
  go_wp2_with fail
  refine (add_no _ _ _ h8).mono ?_
  rintro e w2 ⟨rfl, rfl⟩
  go_wp2
  go_ret
  exact ⟨rfl, hb1⟩

set_option maxRecDepth 100000 in
set_option maxHeartbeats 4000000 in
theorem cellAdds_yes (s : ByteArray) (x : Nat) (w : World) (h : s.size = 8) : Calls Try.prog 4 #[.string s, .float .f64 x] w fun e w' => e = .returned (.bool true) ∧ Below w.heap.size w w' := by
  have hl : (s.size : Int) ≤ 100 := by omega
  have h8 : ((s.size : Int) != 8) = false := by rw [h]; rfl
  have H := Lib.hid h
  clear h
  go_enter Try.func4, Try.ntmps4
  go_wp2_with fail
  refine (awake_any _).mono ?_
  rintro e w1 ⟨rfl, hb1⟩
  go_wp2_with fail
  refine (add_any _ _ _ H.out).mono ?_
  rintro e w2 ⟨rfl, hb2⟩
  obtain ⟨r, w3, hr, hc, hd⟩ := add_run (Flt.canon (num8 s)) x w2
  rw [Flt.addC_canon] at hc
  have HC := Lib.hid hc
  have hB := below_drawn (below2 hb1 hb2) hd
  clear hc hd hb1 hb2
  go_wp2_with fail
  refine (refFloat_any _ _ H.out).mono ?_
  rintro e w4 ⟨rfl, rfl⟩
  go_wp2_with fail
  refine (refBytes_aux _ _ HC.out _).mono ?_
  rintro e w4 ⟨rfl, hb4⟩
  go_wp2
  go_ret
  exact ⟨rfl, hB.trans (hb4.mono hB.size)⟩

theorem walkCellAdds (s : ByteArray) (x : Nat) (w : World) (_ : s.size ≤ maxLen) (_ : x < 2 ^ 64) : Calls Try.prog 4 #[.string s, .float .f64 x] w fun e w' => e = .returned (.bool true) ∧ Below w.heap.size w w' := by
  by_cases h : s.size = 8
  · exact cellAdds_yes s x w h
  · by_cases hl : s.size ≤ 100
    · exact cellAdds_no s x w (by omega) (by simp; omega)
    · exact cellAdds_long s x w (by omega)
end Go.Proofs.Ytpkglclhopamcaa
