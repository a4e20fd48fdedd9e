/- Lists of entries that came in, opened. -/
import Derived.Test.YtkodnjefdophmaaOpenL
import Derived.Test.YtkodnjefdophmaaOpenRec
import Derived.Test.YtkodnjefdophmaaEnt
namespace Go.Proofs.Ytkodnjefdophmaa
open Go.ChangeShapes Go.WideShapes Go.RowKit
set_option maxRecDepth 100000

theorem cellsEnt : Try.prog.cellsOf 39 = 12 := by kernel_rfl
def EntC (w : World) (cs : List Value) (x : Ent) : Prop := ∃ vt vp, cs = .int .i64 x.1 :: (recCells x.2 vt vp).toList ∧ Lists w x.2 vt vp ∧ Sized x.2
theorem read_ent {H : Type} {enc : TypeId × Value → H} {W : World} {n : Nat} {cs : List Value} {y : DataW H × List MemPlace} (hcl : cs.length = 12) (h : DataW.trod enc Try.prog W 0 (fun _ => true) true n 39 cs = some y) :
    ∃ x : Ent, EntC W cs x := by
  obtain ⟨xs, k, _, _, _, hxl, hg⟩ := DataW.trod_struct Try.underlying39 h
  match cs, hcl with
  | x0 :: cs, hcl =>
    have hcl' : cs.length = 11 := by simpa using hcl
    match xs, hxl with
    | [y0, y1], _ =>
      have g0 : DataW.trod enc Try.prog W 0 (fun _ => true) true k 3 (((x0 :: cs).drop 0).take (Try.prog.cellsOf 3)) = [y0, y1][0]? := hg 0 _ rfl
      have g1 : DataW.trod enc Try.prog W 0 (fun _ => true) true k 37 (((x0 :: cs).drop 1).take (Try.prog.cellsOf 37)) = [y0, y1][1]? := hg 1 _ rfl
      rw [cellsRec, List.drop_succ_cons, List.drop_zero, List.take_of_length_le (by omega)] at g1
      simp only [cellsInt, List.drop_zero, List.take_succ_cons, List.take_zero, List.getElem?_cons_zero, List.getElem?_cons_succ] at g0 g1
      obtain ⟨z0, e0, _, w0⟩ := DataW.trod_int Try.underlying3 g0
      simp only [List.cons.injEq, and_true] at e0
      subst e0
      obtain ⟨r, vt, vp, e, hl, hs⟩ := read_rec hcl' g1
      exact ⟨(z0, r), vt, vp, by rw [e], hl, hs⟩
theorem open_ents {H : Type} {enc : TypeId × Value → H} {W : World} {b0 : Nat} {r : Reach} {v : Value} {d : DataW H} {p : List MemPlace} (hval : Value.okWide Try.prog W r b0 22 v) (h : DataW.Trod enc Try.prog W 0 (fun _ => true) true 22 v d p) :
    ∃ l, IsEnts W v l ∧ ∀ x ∈ l, Sized x.2 := by
  haveI : Inhabited Ent := ⟨(0, Rc.nil)⟩
  obtain ⟨l, hl⟩ := open_list Try.underlying22 12 (by decide) cellsEnt hval h EntC fun _ _ _ hcl ht => read_ent hcl ht
  obtain ⟨a, cap, rfl, h1, h2, h3⟩ := hl
  refine ⟨l, ⟨a, cap, rfl, h1, h2, fun j hj => ?_⟩, fun x hx => ?_⟩
  · obtain ⟨b, off, cs, rfl, h4, ⟨vt, vp, rfl, hl, hs⟩, hc⟩ := h3 j _ (List.getElem?_eq_getElem hj)
    refine ⟨b, off, vt, vp, rfl, h4, hc 0 _ rfl, fun i u hi => ?_, hl⟩
    have := hc (i + 1) u (by rw [List.getElem?_cons_succ, Array.getElem?_toList]; exact hi)
    rwa [show off + j * 12 + (i + 1) = off + j * 12 + 1 + i by omega] at this
  · obtain ⟨j, hj, rfl⟩ := List.getElem_of_mem hx
    obtain ⟨b, off, cs, _, h4, ⟨vt, vp, _, _, hs⟩, _⟩ := h3 j _ (List.getElem?_eq_getElem hj)
    exact hs
end Go.Proofs.Ytkodnjefdophmaa
