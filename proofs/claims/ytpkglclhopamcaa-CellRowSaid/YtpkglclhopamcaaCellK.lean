/- The statements CellBack and CellTwice, walked. -/
import Derived.Test.YtpkglclhopamcaaCellJ
namespace Go.Proofs.Ytpkglclhopamcaa
open Go.RowKit

theorem toList_beq (a b : ByteArray) : (a.toList == b.toList) = decide (a = b) := by
  rw [Bool.eq_iff_iff]
  simp only [beq_iff_eq, decide_eq_true_eq]
  constructor
  · intro h
    apply str_ext
    rw [ByteArray.toList_eq, ByteArray.toList_eq] at h
    exact h
  · intro h; rw [h]

def minusZero : ByteArray := ⟨#[128, 0, 0, 0, 0, 0, 0, 0]⟩
theorem cellOf_inj {a b : Nat} (ha : a < 2 ^ 64) (hb : b < 2 ^ 64) (h : cellOf a = cellOf b) : a = b := by
  rw [← num8_cellOf a ha, ← num8_cellOf b hb, h]

set_option maxRecDepth 100000 in
set_option maxHeartbeats 4000000 in
theorem cellBack_no (s : ByteArray) (x : Nat) (w : World) (h8 : ((s.size : Int) != 8) = true) : Calls Try.prog 7 #[.string s, .float .f64 x] w fun e w' => e = .returned (.bool true) ∧ Below w.heap.size w w' := by
  go_enter Try.func7, Try.ntmps7
  go_wp2_with fail
  refine (awake_any _).mono ?_
  rintro e w1 ⟨rfl, hb1⟩
  go_wp2_with fail
  refine (awake_any _).mono ?_
  rintro e w2 ⟨rfl, hb2⟩
  go_wp2
  go_ret
  exact ⟨rfl, below2 hb1 hb2⟩

set_option maxRecDepth 100000 in
set_option maxHeartbeats 4000000 in
/-- c: the float that stands there; m: with nought added. -/
theorem cellBack_core (s : ByteArray) (x c m : Nat) (t u : ByteArray) (w : World) (h8 : s.size = 8) (hc : Flt.canon (num8 s) = c) (hcc : Flt.canon c = c) (ht : cellOf c = t) (hu : cellOf m = u)
    (hm : Flt.addC (num8 t) 0 = m) (n1 n2 n3 n4 : Bool) (e1 : Flt.nanW c = n1) (e2 : (t.toList == [128, 0, 0, 0, 0, 0, 0, 0]) = n2) (e3 : (t.toList == s.toList) = n3) (e4 : (u.toList == t.toList) = n4)
    (h1 : (n1 || n3) = true) (h2 : (n4 == !n2) = true) (hx : x < 2 ^ 64) :
    Calls Try.prog 7 #[.string s, .float .f64 x] w fun e w' => e = .returned (.bool true) ∧ Below w.heap.size w w' := by
  have l8 : ((s.size : Int) != 8) = false := by rw [h8]; rfl
  have k1 := fun w => float_aux s c w h8 hc
  have k2 := fun w => bytes_aux c c hcc w
  have k3 := fun w => add_aux t 0 m w (by rw [← ht]; rfl) hm
  have k4 := fun w => float_aux (cellOf (Flt.canon x)) (Flt.canon x) w rfl (by rw [num8_cellOf _ (Flt.canon_lt hx), Flt.canon_canon])
  have hq := Flt.canon_canon x
  rw [ht] at k2
  rw [hu] at k3
  have K1 := Lib.hid k1
  have K2 := Lib.hid k2
  have K3 := Lib.hid k3
  have K4 := Lib.hid k4
  clear k1 k2 k3 k4 h8 hc hcc ht hu hm hx
  cases n1 <;> cases n2 <;> cases n3 <;> cases n4 <;> first | (exact absurd h1 (by decide)) | (exact absurd h2 (by decide)) | skip
  all_goals
    clear h1 h2
    go_enter Try.func7, Try.ntmps7
    go_wp2_with fail
    refine (awake_any _).mono ?_
    rintro e w1 ⟨rfl, hb1⟩
    go_wp2_with fail
    refine (K1.out _).mono ?_
    rintro e w2 ⟨rfl, rfl⟩
    go_wp2_with fail
    refine (K2.out _).mono ?_
    rintro e w2 ⟨rfl, hb2⟩
    go_wp2_with fail
    refine (K3.out _).mono ?_
    rintro e w3 ⟨rfl, hb3⟩
    go_wp2_with fail
    refine (refNaN_any _ _).mono ?_
    rintro e w4 ⟨rfl, rfl⟩
    go_wp2_with fail
    refine (bytes_any _ _).mono ?_
    rintro e w4 ⟨rfl, hb4⟩
    go_wp2_with fail
    refine (K4.out _).mono ?_
    rintro e w5 ⟨rfl, rfl⟩
    go_wp2_with (go_at_call 15; refine (refBits_any _ _).mono ?_; rintro e w5 ⟨rfl, rfl⟩)
    go_ret
    exact ⟨rfl, below2 (below2 (below2 hb1 hb2) hb3) hb4⟩

theorem walkCellBack (s : ByteArray) (x : Nat) (w : World) (_ : s.size ≤ maxLen) (hx : x < 2 ^ 64) : Calls Try.prog 7 #[.string s, .float .f64 x] w fun e w' => e = .returned (.bool true) ∧ Below w.heap.size w w' := by
  by_cases h8 : s.size = 8
  · have hn := num8_lt s h8
    have hcl := Flt.canon_lt hn
    have hmin : ∀ c : Nat, c < 2 ^ 64 → ((cellOf c).toList == [128, 0, 0, 0, 0, 0, 0, 0]) = decide (c = 2 ^ 63) := by
      intro c hc
      rw [show [128, 0, 0, 0, 0, 0, 0, 0] = minusZero.toList from by decide +kernel, toList_beq]
      congr 1
      rw [show minusZero = cellOf (2 ^ 63) from by decide +kernel]
      exact propext ⟨fun h => cellOf_inj hc (by decide) h, fun h => by rw [h]⟩
    refine cellBack_core s x (Flt.canon (num8 s)) (Flt.addC (num8 (cellOf (Flt.canon (num8 s)))) 0) _ _ w h8 rfl (Flt.canon_canon _) rfl rfl rfl _ _ _ _ rfl rfl rfl rfl ?_ ?_ hx
    · cases hN : Flt.nanW (Flt.canon (num8 s))
      · rw [Flt.nanW_canon] at hN
        rw [toList_beq]
        have : Flt.canon (num8 s) = num8 s := by unfold Flt.canon; rw [hN]; rfl
        rw [this, cellOf_num8 s h8]
        simp
      · rfl
    · rw [hmin _ hcl, toList_beq, num8_cellOf _ hcl]
      generalize hc : Flt.canon (num8 s) = c at *
      cases hN : Flt.nanW c
      · have ha : Flt.addC c 0 = if Flt.rung c = 0 then 0 else c := by unfold Flt.addC; rw [Flt.add_zero hcl hN]; rfl
        rw [ha]
        by_cases hr : Flt.rung c = 0
        · rw [if_pos hr]
          rcases Flt.zero_words hcl hr with rfl | rfl
          · decide +kernel
          · decide +kernel
        · rw [if_neg hr]
          have : c ≠ 2 ^ 63 := fun e => hr (by rw [e]; decide)
          simp [this]
      · have e : Flt.addC c 0 = c := by
          have hN' : Flt.nanW (num8 s) = true := by rw [← Flt.nanW_canon, hc]; exact hN
          have hcn : c = Flt.canonNaN := by rw [← hc]; unfold Flt.canon; rw [hN']; rfl
          unfold Flt.addC
          rw [Flt.add_nan (.inl hN)]
          exact hcn.symm
        rw [e]
        have : c ≠ 2 ^ 63 := fun e => by rw [e] at hN; revert hN; decide +kernel
        simp [this]
  · exact cellBack_no s x w (by simp; omega)
theorem int_run (n : Int) (w : World) : (convert 21 22 (.int .i32 n)).run Try.prog w = .ok (.float .f64 (Flt.ofInt n)) w :=
  run_convert_int_float w 21 22 .i32 .f64 n (by rw [Try.underlying21]; rfl) Try.underlying22
theorem neg_run (x : Nat) (w : World) : (Op.unary .neg (.float .f64 x)).run Try.prog w = .ok (.float .f64 (Flt.negF x)) w := rfl
theorem zero_word (n : Int) (h : n.natAbs < 2 ^ 53) : (FloatKind.f64.format.order (Flt.ofInt n) 0 == some .eq) = decide (n = 0) := by
  rw [show FloatKind.f64.format = Ieee.double from rfl, Flt.rung_zero_of]
  simp only [Flt.rung_ofInt h]
theorem canon_ofInt {n : Int} (h : n.natAbs < 2 ^ 53) : Flt.canon (Flt.ofInt n) = Flt.ofInt n := by
  have : Flt.nanW (Flt.ofInt n) = false := by
    have := (Flt.ofInt_facts h).1
    unfold Flt.nanW
    simp; omega
  unfold Flt.canon; rw [this, if_neg (by decide)]

set_option maxRecDepth 100000 in
set_option maxHeartbeats 4000000 in
theorem walkCellTwice (a b : Int) (w : World) (ha : (Lit.int .i32 a).wf = true) (hb : (Lit.int .i32 b).wf = true) : Calls Try.prog 8 #[.int .i32 a, .int .i32 b] w fun e w' => e = .returned (.bool true) ∧ Below w.heap.size w w' := by
  have ha' : -2147483648 ≤ a ∧ a ≤ 2147483647 := by simpa [Lit.wf, IntKind.min, IntKind.max, IntKind.signed, IntKind.bits] using ha
  have hb' : -2147483648 ≤ b ∧ b ≤ 2147483647 := by simpa [Lit.wf, IntKind.min, IntKind.max, IntKind.signed, IntKind.bits] using hb
  have ca := canon_ofInt (n := a) (by omega)
  have cb := canon_ofInt (n := b) (by omega)
  have na : num8 (cellOf (Flt.ofInt a)) = Flt.ofInt a := num8_cellOf _ (Flt.ofInt_lt a)
  have nb : num8 (cellOf (Flt.ofInt b)) = Flt.ofInt b := num8_cellOf _ (Flt.ofInt_lt b)
  have sab : Flt.addC (Flt.ofInt a) (Flt.ofInt b) = Flt.ofInt (a + b) := by unfold Flt.addC; rw [Flt.add_ofInt (by omega) (by omega) (by omega), Option.getD_some]
  have nab : num8 (cellOf (Flt.ofInt (a + b))) = Flt.ofInt (a + b) := num8_cellOf _ (Flt.ofInt_lt _)
  have hz := zero_word a (by omega)
  have K1 := fun w => bytes_aux _ _ ca w
  have K2 := fun w => bytes_aux _ _ cb w
  have K3 := fun w => add_aux (cellOf (Flt.ofInt a)) (Flt.ofInt b) (Flt.ofInt (a + b)) w rfl (by rw [na, sab])
  have K4 := fun w => add_aux (cellOf (Flt.ofInt b)) (Flt.ofInt a) (Flt.ofInt (a + b)) w rfl (by rw [nb, Flt.addC_comm, sab])
  have i1 := fun w => int_run a w
  have i2 := fun w => int_run b w
  by_cases h0 : a = 0
  · have K5 := fun w => add_aux (cellOf (Flt.ofInt (a + b))) (Flt.negF (Flt.ofInt b)) _ w rfl rfl
    have hz' : (FloatKind.f64.format.order (Flt.ofInt a) 0 == some .eq) = true := by rw [hz]; simpa using h0
    have hneg := neg_run (Flt.ofInt b)
    clear hz h0 ha hb ha' hb' ca cb na nb sab nab
    generalize Flt.addC (num8 (cellOf (Flt.ofInt (a + b)))) (Flt.negF (Flt.ofInt b)) = z at *
    generalize Flt.ofInt (a + b) = f at *
    generalize Flt.ofInt a = x at *
    generalize Flt.ofInt b = y at *
    generalize Flt.negF y = y' at *
    have K1 := Lib.hid K1
    have K2 := Lib.hid K2
    have K3 := Lib.hid K3
    have K4 := Lib.hid K4
    have K5 := Lib.hid K5
    go_enter Try.func8, Try.ntmps8
    go_wp2_with fail
    refine (K1.out _).mono ?_
    rintro e w1 ⟨rfl, hb1⟩
    go_wp2_with fail
    refine (K3.out _).mono ?_
    rintro e w2 ⟨rfl, hb2⟩
    go_wp2_with fail
    refine (K2.out _).mono ?_
    rintro e w3 ⟨rfl, hb3⟩
    go_wp2_with fail
    refine (K4.out _).mono ?_
    rintro e w4 ⟨rfl, hb4⟩
    go_wp2_with fail
    refine (K5.out _).mono ?_
    rintro e w5 ⟨rfl, hb5⟩
    go_wp2_with fail
    refine (awake_any _).mono ?_
    rintro e w6 ⟨rfl, hb6⟩
    go_wp2_with fail
    refine (K1.out _).mono ?_
    rintro e w7 ⟨rfl, hb7⟩
    go_wp2
    all_goals
      go_ret
      exact ⟨rfl, below2 (below2 (below2 (below2 (below2 (below2 hb1 hb2) hb3) hb4) hb5) hb6) hb7⟩
  · have K5 := fun w => add_aux (cellOf (Flt.ofInt (a + b))) (Flt.negF (Flt.ofInt b)) (Flt.ofInt a) w rfl (by rw [nab]; unfold Flt.addC; rw [Flt.add_back (by omega) (by omega) h0, Option.getD_some])
    have hneg := neg_run (Flt.ofInt b)
    clear hz h0 ha hb ha' hb' ca cb na nb sab nab
    generalize Flt.ofInt (a + b) = f at *
    generalize Flt.ofInt a = x at *
    generalize Flt.ofInt b = y at *
    generalize Flt.negF y = y' at *
    have K1 := Lib.hid K1
    have K2 := Lib.hid K2
    have K3 := Lib.hid K3
    have K4 := Lib.hid K4
    have K5 := Lib.hid K5
    go_enter Try.func8, Try.ntmps8
    go_wp2_with fail
    refine (K1.out _).mono ?_
    rintro e w1 ⟨rfl, hb1⟩
    go_wp2_with fail
    refine (K3.out _).mono ?_
    rintro e w2 ⟨rfl, hb2⟩
    go_wp2_with fail
    refine (K2.out _).mono ?_
    rintro e w3 ⟨rfl, hb3⟩
    go_wp2_with fail
    refine (K4.out _).mono ?_
    rintro e w4 ⟨rfl, hb4⟩
    go_wp2_with fail
    refine (K5.out _).mono ?_
    rintro e w5 ⟨rfl, hb5⟩
    go_wp2_with fail
    refine (awake_any _).mono ?_
    rintro e w6 ⟨rfl, hb6⟩
    go_wp2_with fail
    refine (K1.out _).mono ?_
    rintro e w7 ⟨rfl, hb7⟩
    go_wp2
    all_goals
      go_ret
      exact ⟨rfl, below2 (below2 (below2 (below2 (below2 (below2 hb1 hb2) hb3) hb4) hb5) hb6) hb7⟩
end Go.Proofs.Ytpkglclhopamcaa
