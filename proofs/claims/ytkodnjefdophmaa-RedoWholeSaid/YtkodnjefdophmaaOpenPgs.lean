/- Lists of pages that came in, opened. -/
import Derived.Test.YtkodnjefdophmaaRdE
import Derived.Test.YtkodnjefdophmaaApp
namespace Go.Proofs.Ytkodnjefdophmaa
open Go.ChangeShapes Go.WideShapes Go.RowKit
set_option maxRecDepth 100000

/-- A list of pages that one may append: nil, or with an address. -/
def PgSrc (w : World) (v : Value) (l : List Hs.Pge) : Prop := IsPgs w v l ∧ ((v = .slice none 0 0 ∧ l.length = 0) ∨ ∃ ad c, v = .slice (some ad) l.length c)
theorem PgSrc.keep {w w' : World} {v : Value} {l : List Hs.Pge} (h : PgSrc w v l) (hb : Below w.heap.size w w') : PgSrc w' v l := ⟨h.1.keep hb, h.2⟩
theorem pgV_cells (l : List Hs.Pge) : ∀ v ∈ pgV l, v.oneCell' = true := fun v hv => by
  obtain ⟨p, _, hp⟩ := List.mem_flatMap.1 hv
  simp only [pgCells, List.mem_cons, List.not_mem_nil, or_false] at hp
  rcases hp with rfl | rfl <;> rfl
theorem PgSrc.src {w : World} {v : Value} {l : List Hs.Pge} (h : PgSrc w v l) : Src w 2 v l.length (pgV l) := by
  refine ⟨pgV_len l, pgV_cells l, ?_⟩
  rcases h.2 with ⟨rfl, e⟩ | ⟨ad, c, rfl⟩
  · exact .inl ⟨rfl, e⟩
  · refine .inr ⟨ad, c, rfl, fun j u hj => ?_⟩
    have hne : pgV l ≠ [] := fun e => by rw [e] at hj; simp at hj
    obtain ⟨b, off, cap, e, _, _, _, hc⟩ := Elems.cases h.1 hne
    obtain ⟨e1, _, _⟩ := Value.slice.inj e
    obtain rfl := Option.some.inj e1
    rw [show ((⟨b, off, none⟩ : Addr).add j) = ⟨b, off + j, none⟩ from by unfold Addr.add; split <;> simp_all]
    exact hc j u hj
theorem PgSrc.ofOwn {w : World} {B e : Nat} {v : Value} {l : List Hs.Pge} (h : w.ownsRow B e 2 v l.length (pgV l)) : PgSrc w v l := by
  refine ⟨.ofOwn h, ?_⟩
  rcases own_any h with ⟨rfl, e, _⟩ | ⟨g, cap, rfl, _, _⟩
  · exact .inl ⟨rfl, e⟩
  · exact .inr ⟨_, _, rfl⟩

theorem cellsPgg : Try.prog.cellsOf 30 = 2 := by kernel_rfl
def PgC (_ : World) (cs : List Value) (x : Hs.Pge) : Prop := cs = pgCells x ∧ x.2.size ≤ maxLen
theorem read_pg {H : Type} {enc : TypeId × Value → H} {W : World} {n : Nat} {cs : List Value} {y : DataW H × List MemPlace} (hcl : cs.length = 2) (h : DataW.trod enc Try.prog W 0 (fun _ => true) true n 30 cs = some y) :
    ∃ x : Hs.Pge, PgC W cs x := by
  obtain ⟨xs, k, _, _, _, hxl, hg⟩ := DataW.trod_struct Try.underlying30 h
  match cs, hcl with
  | [x0, x1], _ =>
    match xs, hxl with
    | [y0, y1], _ =>
      have g0 : DataW.trod enc Try.prog W 0 (fun _ => true) true k 3 (([x0, x1].drop 0).take (Try.prog.cellsOf 3)) = [y0, y1][0]? := hg 0 _ rfl
      have g1 : DataW.trod enc Try.prog W 0 (fun _ => true) true k 9 (([x0, x1].drop 1).take (Try.prog.cellsOf 9)) = [y0, y1][1]? := hg 1 _ rfl
      simp only [cellsInt, cellsStr, List.drop_zero, List.drop_succ_cons, List.take_succ_cons, List.take_zero, List.getElem?_cons_zero, List.getElem?_cons_succ] at g0 g1
      obtain ⟨z0, e0, _, w0⟩ := DataW.trod_int Try.underlying3 g0
      obtain ⟨z1, e1, _, w1⟩ := DataW.trod_string Try.underlying9 g1
      simp only [List.cons.injEq, and_true] at e0 e1
      subst e0 e1
      exact ⟨(z0, z1), rfl, w1⟩
theorem open_pgs {H : Type} {enc : TypeId × Value → H} {W : World} {b0 : Nat} {r : Reach} {v : Value} {d : DataW H} {p : List MemPlace} (hval : Value.okWide Try.prog W r b0 23 v) (h : DataW.Trod enc Try.prog W 0 (fun _ => true) true 23 v d p) :
    ∃ l, PgSrc W v l ∧ ∀ x ∈ l, x.2.size ≤ maxLen := by
  haveI : Inhabited Hs.Pge := ⟨(0, ⟨#[]⟩)⟩
  obtain ⟨l, hl⟩ := open_list Try.underlying23 2 (by decide) cellsPgg hval h PgC fun _ _ _ hcl ht => read_pg hcl ht
  obtain ⟨a, cap, rfl, h1, h2, h3⟩ := hl
  have hf : (Value.slice a l.length cap = .slice none 0 0 ∧ l.length = 0) ∨ ∃ ad c, Value.slice a l.length cap = .slice (some ad) l.length c := by
    obtain ⟨fuel, hf⟩ := h
    rcases Deep.open_slice Try.underlying23 hf with ⟨hcs, _⟩ | ⟨a', len', cap', m, n, D, Pl, hcs, _⟩
    · simp only [Value.cells, List.cons.injEq, and_true, Value.slice.injEq] at hcs
      obtain ⟨rfl, e, rfl⟩ := hcs
      exact .inl ⟨by rw [e], e⟩
    · simp [Value.cells] at hcs
      obtain ⟨rfl, _, rfl⟩ := hcs
      exact .inr ⟨_, _, rfl⟩
  refine ⟨l, ⟨⟨a, cap, rfl, h1, h2, fun j x hj => ?_⟩, hf⟩, fun x hx => ?_⟩
  · have hjl : j < l.length * 2 := by rw [← pgV_len]; exact (List.getElem?_eq_some_iff.1 hj).1
    obtain ⟨b, off, cs, rfl, h4, ⟨rfl, hs⟩, hc⟩ := h3 (j / 2) _ (List.getElem?_eq_getElem (by omega))
    obtain ⟨e1, e2⟩ := pgV_at l (j / 2) (by omega)
    refine ⟨b, off, rfl, ?_⟩
    have hm : j % 2 = 0 ∨ j % 2 = 1 := by omega
    rcases hm with hm | hm
    · rw [show j / 2 * 2 = j by omega] at e1
      rw [hj] at e1
      have := hc 0 _ rfl
      rw [show off + j / 2 * 2 + 0 = off + j by omega] at this
      rw [this, ← e1]
    · rw [show j / 2 * 2 + 1 = j by omega] at e2
      rw [hj] at e2
      have := hc 1 _ rfl
      rw [show off + j / 2 * 2 + 1 = off + j by omega] at this
      rw [this, ← e2]
  · obtain ⟨j, hj, rfl⟩ := List.getElem_of_mem hx
    obtain ⟨b, off, cs, _, h4, ⟨_, hs⟩, _⟩ := h3 j _ (List.getElem?_eq_getElem hj)
    exact hs
end Go.Proofs.Ytkodnjefdophmaa
