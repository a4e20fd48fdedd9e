/- Pages held against one another. -/
import Derived.Test.YtkodnjefdophmaaBytes
namespace Go.Proofs.Ytkodnjefdophmaa
open Go.RowKit

set_option maxRecDepth 100000 in
set_option maxHeartbeats 1000000 in
/-- '==' between pages. -/
theorem page_eql (A A' : Int) (D D' : ByteArray) (W : World) : (binOp .eql 30 (.agg #[.int .i64 A, .string D]) (.agg #[.int .i64 A', .string D'])).run Try.prog W =
    .ok (.bool (A == A' && D.toList == D'.toList)) W := by
  go_simp
  by_cases h1 : A = A' <;> by_cases h2 : D.toList = D'.toList <;> simp [h1, h2]
theorem page_guard : Try.prog.eqGuardType Try.prog.depth 30 = false := by kernel_rfl
/-- The walk's step at '==' between pages, as one law: guarded or not, where it is wanted. -/
theorem wp_page_eql {ops : Array Oper} {rest : List Oper} {o : Oper} {a : Act} {w : World} {Q : Exit → Act → World → Prop} (x y : Operand) (ty : TypeId) (ho : o.op = .binOp .eql 30 x y ty)
    (hw : Region.wanted o (yielded ops a.tmps) = true) (A A' : Int) (D D' : ByteArray) (hx : a.eval x = .agg #[.int .i64 A, .string D]) (hy : a.eval y = .agg #[.int .i64 A', .string D'])
    (h : wpList Try.prog ops Q rest (a.put o.dst (.bool (A == A' && D.toList == D'.toList))) w) : wpList Try.prog ops Q (o :: rest) a w := by
  unfold wpList
  rw [if_pos hw]
  refine .inl ?_
  unfold Oper.wp execOp
  simp only [ho, hx, hy, Sem.run_bind, run_eqGuard_agg w .eql 30 x y _ _ page_guard, Result.andThen_ok, page_eql, Sem.run_pure, Oper.upon_value]
  exact h
set_option maxRecDepth 100000 in
set_option maxHeartbeats 1000000 in
/-- '!=' between pages. -/
theorem page_neq (A A' : Int) (D D' : ByteArray) (W : World) : (binOp .neq 30 (.agg #[.int .i64 A, .string D]) (.agg #[.int .i64 A', .string D'])).run Try.prog W =
    .ok (.bool (!(A == A' && D.toList == D'.toList))) W := by
  go_simp
  by_cases h1 : A = A' <;> by_cases h2 : D.toList = D'.toList <;> simp [h1, h2]
theorem wp_page_neq {ops : Array Oper} {rest : List Oper} {o : Oper} {a : Act} {w : World} {Q : Exit → Act → World → Prop} (x y : Operand) (ty : TypeId) (ho : o.op = .binOp .neq 30 x y ty)
    (hw : Region.wanted o (yielded ops a.tmps) = true) (A A' : Int) (D D' : ByteArray) (hx : a.eval x = .agg #[.int .i64 A, .string D]) (hy : a.eval y = .agg #[.int .i64 A', .string D'])
    (h : wpList Try.prog ops Q rest (a.put o.dst (.bool (!(A == A' && D.toList == D'.toList)))) w) : wpList Try.prog ops Q (o :: rest) a w := by
  unfold wpList
  rw [if_pos hw]
  refine .inl ?_
  unfold Oper.wp execOp
  simp only [ho, hx, hy, Sem.run_bind, run_eqGuard_agg w .neq 30 x y _ _ page_guard, Result.andThen_ok, page_neq, Sem.run_pure, Oper.upon_value]
  exact h
end Go.Proofs.Ytkodnjefdophmaa
