/- careenlaw09: operations that came in. -/
import Derived.Test.YtkeonffkaopclaaOpen
import Derived.Test.YtkeonffkaopclaaOpenL
import Derived.Test.YtkeonffkaopclaaLkJ
namespace Go.Proofs.Ytkeonffkaopclaa
open Go.ChangeShapes Go.WideShapes Go.RowKit
set_option maxRecDepth 100000

structure Op9 where
  kind : Int
  txn : Int
  page : Int
  mode : Int
def op9Cells (o : Op9) : Array Value := #[.int .i64 o.kind, .int .i64 o.txn, .int .i64 o.page, .int .i64 o.mode]
structure Op9Wf (o : Op9) : Prop where
  txn : (Lit.int .i64 o.txn).wf = true
def Op9Q (_ : World) (cs : List Value) (o : Op9) : Prop := cs = (op9Cells o).toList ∧ Op9Wf o
abbrev IsOps9 (w : World) (v : Value) (l : List Op9) : Prop := ListOf 4 Op9Q w v l
theorem IsOps9.keep {w w' : World} {v : Value} {l : List Op9} (h : IsOps9 w v l) (hb : Below w.heap.size w w') : IsOps9 w' v l := ListOf.keep h (fun _ _ hq => hq) hb
theorem cellsOp9 : Try.prog.cellsOf 31 = 4 := by kernel_rfl
theorem cellsInt9 : Try.prog.cellsOf 3 = 1 := by kernel_rfl
theorem read_op9 {H : Type} {enc : TypeId × Value → H} {W : World} {n : Nat} {cs : List Value} {y : DataW H × List MemPlace} (hcl : cs.length = 4) (h : DataW.trod enc Try.prog W 0 (fun _ => true) true n 31 cs = some y) : ∃ o : Op9, Op9Q W cs o := by
  obtain ⟨xs, k, _, _, _, hxl, hg⟩ := DataW.trod_struct Try.underlying31 h
  match cs, hcl with
  | [x0, x1, x2, x3], _ =>
    match xs, hxl with
    | [y0, y1, y2, y3], _ =>
      have g0 : DataW.trod enc Try.prog W 0 (fun _ => true) true k 3 (([x0, x1, x2, x3].drop 0).take (Try.prog.cellsOf 3)) = [y0, y1, y2, y3][0]? := hg 0 _ rfl
      have g1 : DataW.trod enc Try.prog W 0 (fun _ => true) true k 3 (([x0, x1, x2, x3].drop 1).take (Try.prog.cellsOf 3)) = [y0, y1, y2, y3][1]? := hg 1 _ rfl
      have g2 : DataW.trod enc Try.prog W 0 (fun _ => true) true k 3 (([x0, x1, x2, x3].drop 2).take (Try.prog.cellsOf 3)) = [y0, y1, y2, y3][2]? := hg 2 _ rfl
      have g3 : DataW.trod enc Try.prog W 0 (fun _ => true) true k 3 (([x0, x1, x2, x3].drop 3).take (Try.prog.cellsOf 3)) = [y0, y1, y2, y3][3]? := hg 3 _ rfl
      simp only [cellsInt9, List.drop_zero, List.drop_succ_cons, List.take_succ_cons, List.take_zero, List.getElem?_cons_zero, List.getElem?_cons_succ] at g0 g1 g2 g3
      obtain ⟨z0, e0, _, w0⟩ := DataW.trod_int Try.underlying3 g0
      obtain ⟨z1, e1, _, w1⟩ := DataW.trod_int Try.underlying3 g1
      obtain ⟨z2, e2, _, w2⟩ := DataW.trod_int Try.underlying3 g2
      obtain ⟨z3, e3, _, w3⟩ := DataW.trod_int Try.underlying3 g3
      simp only [List.cons.injEq, and_true] at e0 e1 e2 e3
      subst e0 e1 e2 e3
      exact ⟨⟨z0, z1, z2, z3⟩, rfl, ⟨w1⟩⟩
theorem open_ops9 {H : Type} {enc : TypeId × Value → H} {W : World} {b0 : Nat} {r : Reach} {v : Value} {d : DataW H} {p : List MemPlace} (hval : Value.okWide Try.prog W r b0 22 v) (h : DataW.Trod enc Try.prog W 0 (fun _ => true) true 22 v d p) :
    ∃ l, IsOps9 W v l :=
  haveI : Inhabited Op9 := ⟨⟨0, 0, 0, 0⟩⟩
  open_list Try.underlying22 4 (by decide) cellsOp9 hval h Op9Q fun _ _ _ hcl ht => read_op9 hcl ht
/-- An operation in cells behind one another. -/
structure Op9At (w : World) (b o : Nat) (x : Op9) : Prop where
  c0 : w.cell? ⟨b, o, none⟩ = some (.int .i64 x.kind)
  c1 : w.cell? ⟨b, o + 1, none⟩ = some (.int .i64 x.txn)
  c2 : w.cell? ⟨b, o + 2, none⟩ = some (.int .i64 x.page)
  c3 : w.cell? ⟨b, o + 3, none⟩ = some (.int .i64 x.mode)
theorem Op9At.mk' {w : World} {b o : Nat} {x : Op9} (h : ∀ i u, (op9Cells x)[i]? = some u → w.cell? ⟨b, o + i, none⟩ = some u) : Op9At w b o x := ⟨h 0 _ rfl, h 1 _ rfl, h 2 _ rfl, h 3 _ rfl⟩
theorem Op9At.keep {w w' : World} {b o : Nat} {x : Op9} (h : Op9At w b o x) (hb : Below w.heap.size w w') : Op9At w' b o x := by
  have hlt := World.block_lt_of_cell? w ⟨b, o, none⟩ h.c0
  have k : ∀ x, w'.cell? ⟨b, x, none⟩ = w.cell? ⟨b, x, none⟩ := fun x => hb.cell (p := ⟨b, x, none⟩) hlt
  exact ⟨(k _).trans h.c0, (k _).trans h.c1, (k _).trans h.c2, (k _).trans h.c3⟩
theorem IsOps9.at_ {w : World} {v : Value} {l : List Op9} (h : IsOps9 w v l) (hl : 0 < l.length) : ∃ b off cap, v = .slice (some ⟨b, off, none⟩) l.length cap ∧ l.length ≤ cap ∧ cap ≤ maxLen ∧ b < w.heap.size ∧
    ∀ j (hj : j < l.length), Op9Wf l[j] ∧ Op9At w b (off + j * 4) l[j] := by
  rcases h.cases with ⟨rfl, _⟩ | ⟨b, off, cap, rfl, _, h2, h3, h4, h5⟩
  · simp at hl
  refine ⟨b, off, cap, rfl, h2, h3, h4, fun j hj => ?_⟩
  obtain ⟨cs, ⟨rfl, hw⟩, hc⟩ := h5 j hj
  exact ⟨hw, .mk' fun i u hu => hc i u (by rw [Array.getElem?_toList]; exact hu)⟩
/-- The variable's cells, spelled as the walk spells them. -/
def op9Zero : Array Value := #[.int .i64 0, .int .i64 0, .int .i64 0, .int .i64 0]
end Go.Proofs.Ytkeonffkaopclaa
