/- Package cell: bytes as floats; the document's own likewise; what is added. -/
import Derived.Test.YtpkglclhopamcaaCellD
namespace Go.Proofs.Ytpkglclhopamcaa
open Go.RowKit

/-- The first k bytes of a text as a number, the highest first. -/
def numTo (s : ByteArray) (k : Nat) : Nat := (s.data.toList.take k).foldl (fun a b => a * 256 + b.toNat) 0
def num8 (s : ByteArray) : Nat := numTo s 8
theorem numTo_succ (s : ByteArray) (k : Nat) (h : k < s.size) : numTo s (k + 1) = numTo s k * 256 + s[k].toNat := by
  unfold numTo
  rw [List.take_succ_eq_append_getElem (by simpa using h), List.foldl_append]
  rfl
theorem numTo_lt (s : ByteArray) : ∀ k : Nat, k ≤ s.size → numTo s k < 256 ^ k
  | 0, _ => by simp [numTo]
  | k + 1, h => by
    rw [numTo_succ s k (by omega), Nat.pow_succ]
    have := numTo_lt s k (by omega)
    have := s[k].toNat_lt
    omega
theorem numTo_small (s : ByteArray) {k : Nat} (h : k < 8) (hs : s.size = 8) : numTo s k < 72057594037927936 :=
  Nat.lt_of_lt_of_le (numTo_lt s k (by omega)) (Nat.le_trans (Nat.pow_le_pow_right (by decide) (show k ≤ 7 by omega)) (by decide))
theorem num8_lt (s : ByteArray) (hs : s.size = 8) : num8 s < 2 ^ 64 := Nat.lt_of_lt_of_le (numTo_lt s 8 (by omega)) (by decide)
theorem or_u64 (a b : Nat) (ha : a < 72057594037927936) (hb : b < 256) : bits .or .u64 ((a : Int) * 256) (b : Int) = ((a * 256 + b : Nat) : Int) := by
  have h := u64_or_nat (a * 256) b (by omega) (by omega)
  rw [show (a : Int) * 256 = ((a * 256 : Nat) : Int) from by omega, h]
  congr 1
  have := Nat.shiftLeft_add_eq_or_of_lt (b := b) (i := 8) (by omega) a
  rw [Nat.shiftLeft_eq] at this
  exact this.symm

set_option maxRecDepth 100000 in
theorem float_no (s : ByteArray) (w : World) (hs : ((s.size : Int) != 8) = true) :
    Calls Try.prog 12 #[.string s] w fun e w' => e = .returned (.tuple #[.float .f64 0, .int .i64 1]) ∧ w = w' := by
  go_enter Try.func12, Try.ntmps12
  go_wp2
  go_ret2
  exact ⟨rfl, rfl⟩

set_option maxRecDepth 100000 in
set_option maxHeartbeats 1000000 in
theorem float_aux (s : ByteArray) (n : Nat) (w : World) (hs : s.size = 8) (hn : Flt.canon (num8 s) = n) :
    Calls Try.prog 12 #[.string s] w fun e w' => e = .returned (.tuple #[.float .f64 n, .int .i64 0]) ∧ w = w' := by
  have hS := Lib.hid hs
  have hN := Lib.hid hn
  have hl : ((s.size : Int) != 8) = false := by rw [hs]; rfl
  clear hn hs
  go_enter Try.func12, Try.ntmps12
  go_wp2
  go_loop [4, 9] (fun n i => ∃ k : Nat, k ≤ 8 ∧ i = .int .i64 k ∧ n = .int .u64 (numTo s k : Nat)) (fun _ i => 8 - (intOf i).toNat)
  case atStart => exact ⟨0, by omega, rfl, rfl⟩
  case round =>
    obtain ⟨k, hk, rfl, rfl⟩ := hrel
    by_cases h8 : k < 8
    · have hb : (s[k]'(by have := hS.out; omega)).toNat < 256 := by have := (s[k]'(by have := hS.out; omega)).toNat_lt; omega
      have hlt : k < s.size := by have := hS.out; omega
      have hsm := numTo_small s h8 hS.out
      have ho := or_u64 (numTo s k) s[k].toNat hsm hb
      have hT := Lib.hid (numTo_succ s k hlt)
      go_wp2
      go_round
      case rel => exact ⟨k + 1, by omega, by go_num, by rw [hT.out]; simp⟩
      case measure => simp [intOf]; omega
    · obtain rfl : k = 8 := by omega
      have hC := Lib.hid (show Flt.canon (numTo s 8) = n from hN.out)
      go_wp2_with fail
      refine (canonical_any _ _).mono ?_
      rintro e w1 ⟨rfl, rfl⟩
      rw [hC.out]
      go_wp2
      go_ret2
      exact ⟨rfl, rfl⟩
theorem float_any (s : ByteArray) (w : World) (hs : s.size = 8) :
    Calls Try.prog 12 #[.string s] w fun e w' => e = .returned (.tuple #[.float .f64 (Flt.canon (num8 s)), .int .i64 0]) ∧ w = w' := float_aux s _ w hs rfl

theorem wrap_u64_in (x : Int) (h0 : 0 ≤ x) (h : x < 18446744073709551616) : IntKind.u64.wrap x = x := by rw [IntKind.wrap_u64]; omega

set_option maxRecDepth 100000 in
set_option maxHeartbeats 1000000 in
theorem refFloat_aux (s : ByteArray) (n : Nat) (w : World) (hs : s.size = 8) (hn : Flt.canon (num8 s) = n) :
    Calls Try.prog 16 #[.string s] w fun e w' => e = .returned (.float .f64 n) ∧ w = w' := by
  have hS := Lib.hid hs
  have hN := Lib.hid hn
  clear hn hs
  go_enter Try.func16, Try.ntmps16
  go_wp2
  go_loop [3, 4] (fun n i => ∃ k : Nat, k ≤ 8 ∧ i = .int .i64 k ∧ n = .int .u64 (numTo s k : Nat)) (fun _ i => 8 - (intOf i).toNat)
  case atStart => exact ⟨0, by omega, rfl, rfl⟩
  case round =>
    obtain ⟨k, hk, rfl, rfl⟩ := hrel
    by_cases h8 : k < 8
    · have hb : (s[k]'(by have := hS.out; omega)).toNat < 256 := by have := (s[k]'(by have := hS.out; omega)).toNat_lt; omega
      have hlt : k < s.size := by have := hS.out; omega
      have hsm := numTo_small s h8 hS.out
      have hT := Lib.hid (numTo_succ s k hlt)
      go_wp2
      go_round
      case rel => exact ⟨k + 1, by omega, by go_num, by rw [hT.out]; simp⟩
      case measure => simp [intOf]; omega
    · obtain rfl : k = 8 := by omega
      have hC := Lib.hid (show Flt.canon (numTo s 8) = n from hN.out)
      go_wp2_with fail
      refine (refBits_any _ _).mono ?_
      rintro e w1 ⟨rfl, rfl⟩
      rw [hC.out]
      go_wp2
      go_ret
      exact ⟨rfl, rfl⟩
theorem refFloat_any (s : ByteArray) (w : World) (hs : s.size = 8) :
    Calls Try.prog 16 #[.string s] w fun e w' => e = .returned (.float .f64 (Flt.canon (num8 s))) ∧ w = w' := refFloat_aux s _ w hs rfl

theorem cut_nan (x y t : Nat) : Flt.nanW (Question.cut (.nanBits .f64 x y) t) = true := by
  unfold Flt.nanW Flt.rung Flt.top Question.cut
  simp only [decide_eq_true_eq]
  have hp : t % 2 = 0 ∨ t % 2 = 1 := by omega
  have hu := Nat.mod_lt (t / 2) (show 2 ^ 52 - 1 > 0 by decide)
  generalize t / 2 % (2 ^ 52 - 1) = u at *
  rcases hp with e | e <;> rw [e] <;> omega
/-- What is added is the sum, or some NaN: which one it is makes no odds later. -/
theorem add_run (x y : Nat) (w : World) : ∃ r w', (binOp .add 22 (.float .f64 x) (.float .f64 y)).run Try.prog w = .ok (.float .f64 r) w' ∧ Flt.canon r = Flt.addC x y ∧ (w' = w ∨ w' = w.drew) := by
  cases h : Ieee.double.add x y with
  | some r =>
    refine ⟨r, w, run_float_arith w .add 22 .f64 x y r h, ?_, .inl rfl⟩
    unfold Flt.addC Flt.canon
    rw [h, Flt.add_not_nan h]
    rfl
  | none =>
    have h' : FloatKind.f64.format.add x y = none := h
    refine ⟨Question.cut (.nanBits .f64 x y) (w.tape w.drawn (.nanBits .f64 x y)), w.drew, ?_, ?_, .inr rfl⟩
    · simp [binOp, Op.floatArith, h', Question.forced]
    · unfold Flt.addC Flt.canon
      rw [h, cut_nan]
      rfl
theorem below_drawn {a w w' : World} {B : Nat} (h : Below B a w) (hd : w' = w ∨ w' = w.drew) : Below B a w' := by
  rcases hd with rfl | rfl
  · exact h
  · exact h.drew

theorem add_no (s : ByteArray) (y : Nat) (w : World) (hs : ((s.size : Int) != 8) = true) :
    Calls Try.prog 18 #[.string s, .float .f64 y] w fun e w' => e = .returned (.tuple #[.string ⟨#[]⟩, .int .i64 1]) ∧ w = w' := by
  have HS := Lib.hid hs
  clear hs
  go_enter Try.func18, Try.ntmps18
  go_wp2_with fail
  refine (float_no _ _ HS.out).mono ?_
  rintro e w1 ⟨rfl, rfl⟩
  go_wp2
  go_ret2
  exact ⟨rfl, rfl⟩

theorem add_aux (s : ByteArray) (y n : Nat) (w : World) (hs : s.size = 8) (hn : Flt.addC (num8 s) y = n) :
    Calls Try.prog 18 #[.string s, .float .f64 y] w fun e w' => e = .returned (.tuple #[.string (cellOf n), .int .i64 0]) ∧ Below w.heap.size w w' := by
  obtain ⟨r, w1, hr, hc, hd⟩ := add_run (Flt.canon (num8 s)) y w
  rw [Flt.addC_canon, hn] at hc
  have hC := Lib.hid hc
  have hS := Lib.hid hs
  have hB := below_drawn (Below.refl w.heap.size w) hd
  clear hc hs hn hd
  go_enter Try.func18, Try.ntmps18
  go_wp2_with fail
  refine (float_any _ _ hS.out).mono ?_
  rintro e w2 ⟨rfl, rfl⟩
  go_wp2_with fail
  refine (bytes_aux _ _ hC.out _).mono ?_
  rintro e w3 ⟨rfl, hb⟩
  go_wp2
  go_ret2
  exact ⟨rfl, hB.trans (hb.mono hB.size)⟩
theorem add_any (s : ByteArray) (y : Nat) (w : World) (hs : s.size = 8) :
    Calls Try.prog 18 #[.string s, .float .f64 y] w fun e w' => e = .returned (.tuple #[.string (cellOf (Flt.addC (num8 s) y)), .int .i64 0]) ∧ Below w.heap.size w w' := add_aux s y _ w hs rfl
end Go.Proofs.Ytpkglclhopamcaa
