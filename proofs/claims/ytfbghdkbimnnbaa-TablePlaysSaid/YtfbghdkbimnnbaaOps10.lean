/- careenlaw10: operations that came in. -/
import Derived.Test.YtfbghdkbimnnbaaOpen
import Derived.Test.YtfbghdkbimnnbaaOpenL
import Derived.Test.YtfbghdkbimnnbaaTbJ
namespace Go.Proofs.Ytfbghdkbimnnbaa
open Go.ChangeShapes Go.WideShapes Go.RowKit
set_option maxRecDepth 100000

structure Op10 where
  kind : Int
  txn : Int
  n : Int
def op10Cells (o : Op10) : Array Value := #[.int .i64 o.kind, .int .i64 o.txn, .int .i64 o.n]
structure Op10Wf (o : Op10) : Prop where
  txn : (Lit.int .i64 o.txn).wf = true
  n : (Lit.int .i64 o.n).wf = true
def Op10Q (_ : World) (cs : List Value) (o : Op10) : Prop := cs = (op10Cells o).toList ∧ Op10Wf o
abbrev IsOps10 (w : World) (v : Value) (l : List Op10) : Prop := ListOf 3 Op10Q w v l
theorem IsOps10.keep {w w' : World} {v : Value} {l : List Op10} (h : IsOps10 w v l) (hb : Below w.heap.size w w') : IsOps10 w' v l := ListOf.keep h (fun _ _ hq => hq) hb
theorem cellsOp10 : Try.prog.cellsOf 31 = 3 := by kernel_rfl
theorem cellsInt10 : Try.prog.cellsOf 3 = 1 := by kernel_rfl
theorem read_op10 {H : Type} {enc : TypeId × Value → H} {W : World} {n : Nat} {cs : List Value} {y : DataW H × List MemPlace} (hcl : cs.length = 3) (h : DataW.trod enc Try.prog W 0 (fun _ => true) true n 31 cs = some y) : ∃ o : Op10, Op10Q W cs o := by
  obtain ⟨xs, k, _, _, _, hxl, hg⟩ := DataW.trod_struct Try.underlying31 h
  match cs, hcl with
  | [x0, x1, x2], _ =>
    match xs, hxl with
    | [y0, y1, y2], _ =>
      have g0 : DataW.trod enc Try.prog W 0 (fun _ => true) true k 3 (([x0, x1, x2].drop 0).take (Try.prog.cellsOf 3)) = [y0, y1, y2][0]? := hg 0 _ rfl
      have g1 : DataW.trod enc Try.prog W 0 (fun _ => true) true k 3 (([x0, x1, x2].drop 1).take (Try.prog.cellsOf 3)) = [y0, y1, y2][1]? := hg 1 _ rfl
      have g2 : DataW.trod enc Try.prog W 0 (fun _ => true) true k 3 (([x0, x1, x2].drop 2).take (Try.prog.cellsOf 3)) = [y0, y1, y2][2]? := hg 2 _ rfl
      simp only [cellsInt10, List.drop_zero, List.drop_succ_cons, List.take_succ_cons, List.take_zero, List.getElem?_cons_zero, List.getElem?_cons_succ] at g0 g1 g2
      obtain ⟨z0, e0, _, w0⟩ := DataW.trod_int Try.underlying3 g0
      obtain ⟨z1, e1, _, w1⟩ := DataW.trod_int Try.underlying3 g1
      obtain ⟨z2, e2, _, w2⟩ := DataW.trod_int Try.underlying3 g2
      simp only [List.cons.injEq, and_true] at e0 e1 e2
      subst e0 e1 e2
      exact ⟨⟨z0, z1, z2⟩, rfl, ⟨w1, w2⟩⟩
theorem open_ops10 {H : Type} {enc : TypeId × Value → H} {W : World} {b0 : Nat} {r : Reach} {v : Value} {d : DataW H} {p : List MemPlace} (hval : Value.okWide Try.prog W r b0 22 v) (h : DataW.Trod enc Try.prog W 0 (fun _ => true) true 22 v d p) :
    ∃ l, IsOps10 W v l :=
  haveI : Inhabited Op10 := ⟨⟨0, 0, 0⟩⟩
  open_list Try.underlying22 3 (by decide) cellsOp10 hval h Op10Q fun _ _ _ hcl ht => read_op10 hcl ht
/-- An operation in cells behind one another. -/
structure Op10At (w : World) (b o : Nat) (x : Op10) : Prop where
  c0 : w.cell? ⟨b, o, none⟩ = some (.int .i64 x.kind)
  c1 : w.cell? ⟨b, o + 1, none⟩ = some (.int .i64 x.txn)
  c2 : w.cell? ⟨b, o + 2, none⟩ = some (.int .i64 x.n)
theorem Op10At.mk' {w : World} {b o : Nat} {x : Op10} (h : ∀ i u, (op10Cells x)[i]? = some u → w.cell? ⟨b, o + i, none⟩ = some u) : Op10At w b o x := ⟨h 0 _ rfl, h 1 _ rfl, h 2 _ rfl⟩
theorem Op10At.keep {w w' : World} {b o : Nat} {x : Op10} (h : Op10At w b o x) (hb : Below w.heap.size w w') : Op10At w' b o x := by
  have hlt := World.block_lt_of_cell? w ⟨b, o, none⟩ h.c0
  have k : ∀ x, w'.cell? ⟨b, x, none⟩ = w.cell? ⟨b, x, none⟩ := fun x => hb.cell (p := ⟨b, x, none⟩) hlt
  exact ⟨(k _).trans h.c0, (k _).trans h.c1, (k _).trans h.c2⟩
theorem IsOps10.at_ {w : World} {v : Value} {l : List Op10} (h : IsOps10 w v l) (hl : 0 < l.length) : ∃ b off cap, v = .slice (some ⟨b, off, none⟩) l.length cap ∧ l.length ≤ cap ∧ cap ≤ maxLen ∧ b < w.heap.size ∧
    ∀ j (hj : j < l.length), Op10Wf l[j] ∧ Op10At w b (off + j * 3) l[j] := by
  rcases h.cases with ⟨rfl, _⟩ | ⟨b, off, cap, rfl, _, h2, h3, h4, h5⟩
  · simp at hl
  refine ⟨b, off, cap, rfl, h2, h3, h4, fun j hj => ?_⟩
  obtain ⟨cs, ⟨rfl, hw⟩, hc⟩ := h5 j hj
  exact ⟨hw, .mk' fun i u hu => hc i u (by rw [Array.getElem?_toList]; exact hu)⟩
/-- The variable's cells, spelled as the walk spells them. -/
def op10Zero : Array Value := #[.int .i64 0, .int .i64 0, .int .i64 0]
end Go.Proofs.Ytfbghdkbimnnbaa
