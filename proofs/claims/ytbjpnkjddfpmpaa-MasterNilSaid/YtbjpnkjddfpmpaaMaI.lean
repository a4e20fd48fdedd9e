/- Package master over a disk made since a world; the document's May; '==' between masters; what the document fixes comes out (awake of careenlaw12). -/
import Derived.Test.YtbjpnkjddfpmpaaMaH
namespace Go.Proofs.Ytbjpnkjddfpmpaa
open Go.RowKit

namespace LiveD
variable {w0 w w' : World} {F F' : Foot} {g : Nat} {D D' : Dk}
theorem mread (h : LiveD w0 w F g D) (b : Int) :
    Calls Try.prog 10 #[.pointer (some ⟨g, 0, none⟩), .int .i64 b] w fun e w' => e = .returned (.tuple #[.agg #[.int .i64 (cdM.read D b).2.check, .int .i64 (cdM.read D b).2.low], .int .u32 (cdM.read D b).1, .int .i64 (Cd.readE D b)]) ∧ LiveD w0 w' F g D ∧ Below w.heap.size w w' :=
  (maRead_any h.disk b).mono fun _ _ ⟨he, hb⟩ => ⟨he, h.more hb, hb⟩
theorem mwrite (h : LiveD w0 w F g D) (b : Int) (t : Nat) (m : Ms) (ht : t < 4294967296) (hw : D.waits.length < 16777216) :
    Calls Try.prog 13 #[.pointer (some ⟨g, 0, none⟩), .int .i64 b, .int .u32 t, .agg #[.int .i64 m.check, .int .i64 m.low]] w fun e w' => e = .returned (.int .i64 (cdM.writeE D b t m)) ∧ ∃ F', LiveD w0 w' F' g (cdM.write D b t m) ∧ Step F F' w w' :=
  (maWrite_any h.disk b t m ht hw).mono fun _ _ ⟨he, F', hd, st⟩ => ⟨he, F', h.step hd st, st⟩
end LiveD
set_option maxRecDepth 100000 in
set_option maxHeartbeats 1000000 in
theorem refMay12_any (c l : Int) (w : World) (y : Bool) (hy : y = decide (Ms.May ⟨c, l⟩)) :
    Calls Try.prog 11 #[.agg #[.int .i64 c, .int .i64 l]] w fun e w' => e = .returned (.bool y) ∧ Below w.heap.size w w' := by
  have hY : Hid (y = (decide (0 ≤ c) && decide (c ≤ 2147483647) && decide (1 ≤ l) && decide (l ≤ 2147483647))) := by
    rw [Hid, hy]
    unfold Ms.May
    by_cases c1 : 0 ≤ c <;> by_cases c2 : c ≤ 2147483647 <;> by_cases c3 : 1 ≤ l <;> by_cases c4 : l ≤ 2147483647 <;> simp [c1, c2, c3, c4]
  clear hy
  have HB := Lib.hid ((Below.refl w.heap.size w).alloc (Nat.le_refl _) (.cells #[.int .i64 c, .int .i64 l] 30))
  by_cases c1 : 0 ≤ c
  · by_cases c2 : c ≤ 2147483647
    · by_cases c3 : 1 ≤ l
      · by_cases c4 : l ≤ 2147483647
        all_goals
          go_enter Try.func11, Try.ntmps11
          go_wp2
          go_ret
          exact ⟨by rw [hY.out]; simp [c1, c2, c3, c4], HB.out⟩
      · go_enter Try.func11, Try.ntmps11
        go_wp2
        go_ret
        exact ⟨by rw [hY.out]; simp [c1, c2]; omega, HB.out⟩
    · go_enter Try.func11, Try.ntmps11
      go_wp2
      go_ret
      exact ⟨by rw [hY.out]; simp [c1]; omega, HB.out⟩
  · go_enter Try.func11, Try.ntmps11
    go_wp2
    go_ret
    exact ⟨by rw [hY.out]; simp; omega, HB.out⟩

set_option maxRecDepth 100000 in
set_option maxHeartbeats 1000000 in
theorem ms_eql (A A' B B' : Int) (W : World) : (binOp .eql 30 (.agg #[.int .i64 A, .int .i64 B]) (.agg #[.int .i64 A', .int .i64 B'])).run Try.prog W = .ok (.bool (A == A' && B == B')) W := by
  go_simp
  by_cases h1 : A = A' <;> by_cases h2 : B = B' <;> simp [h1, h2]
set_option maxRecDepth 100000 in
set_option maxHeartbeats 1000000 in
theorem ms_neq (A A' B B' : Int) (W : World) : (binOp .neq 30 (.agg #[.int .i64 A, .int .i64 B]) (.agg #[.int .i64 A', .int .i64 B'])).run Try.prog W = .ok (.bool (!(A == A' && B == B'))) W := by
  go_simp
  by_cases h1 : A = A' <;> by_cases h2 : B = B' <;> simp [h1, h2]
theorem ms_guard : Try.prog.eqGuardType Try.prog.depth 30 = false := by kernel_rfl
theorem wp_ms_eql {ops : Array Oper} {rest : List Oper} {o : Oper} {a : Act} {w : World} {Q : Exit → Act → World → Prop} (x y : Operand) (ty : TypeId) (ho : o.op = .binOp .eql 30 x y ty)
    (hw : Region.wanted o (yielded ops a.tmps) = true) (A A' B B' : Int) (hx : a.eval x = .agg #[.int .i64 A, .int .i64 B]) (hy : a.eval y = .agg #[.int .i64 A', .int .i64 B'])
    (h : wpList Try.prog ops Q rest (a.put o.dst (.bool (A == A' && B == B'))) w) : wpList Try.prog ops Q (o :: rest) a w := by
  unfold wpList
  rw [if_pos hw]
  refine .inl ?_
  unfold Oper.wp execOp
  simp only [ho, hx, hy, Sem.run_bind, run_eqGuard_agg w .eql 30 x y _ _ ms_guard, Result.andThen_ok, ms_eql, Sem.run_pure, Oper.upon_value]
  exact h
theorem wp_ms_neq {ops : Array Oper} {rest : List Oper} {o : Oper} {a : Act} {w : World} {Q : Exit → Act → World → Prop} (x y : Operand) (ty : TypeId) (ho : o.op = .binOp .neq 30 x y ty)
    (hw : Region.wanted o (yielded ops a.tmps) = true) (A A' B B' : Int) (hx : a.eval x = .agg #[.int .i64 A, .int .i64 B]) (hy : a.eval y = .agg #[.int .i64 A', .int .i64 B'])
    (h : wpList Try.prog ops Q rest (a.put o.dst (.bool (!(A == A' && B == B')))) w) : wpList Try.prog ops Q (o :: rest) a w := by
  unfold wpList
  rw [if_pos hw]
  refine .inl ?_
  unfold Oper.wp execOp
  simp only [ho, hx, hy, Sem.run_bind, run_eqGuard_agg w .neq 30 x y _ _ ms_guard, Result.andThen_ok, ms_neq, Sem.run_pure, Oper.upon_value]
  exact h
end Go.Proofs.Ytbjpnkjddfpmpaa
