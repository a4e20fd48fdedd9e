/- Lists of records that came in, opened. -/
import Derived.Test.YtpcfhpffbogjmaaOpenL
import Derived.Test.YtpcfhpffbogjmaaOpenRec
namespace Go.Proofs.Ytpcfhpffbogjmaa
open Go.ChangeShapes Go.WideShapes Go.RowKit
set_option maxRecDepth 100000

def RecQ (w : World) (cs : List Value) (r : Rc) : Prop := ∃ vt vp, cs = (recCells r vt vp).toList ∧ Lists w r vt vp ∧ Sized r
abbrev IsRecs (w : World) (v : Value) (l : List Rc) : Prop := ListOf 11 RecQ w v l
theorem RecQ.keep {w w' : World} {cs : List Value} {r : Rc} (h : RecQ w cs r) (hb : Below w.heap.size w w') : RecQ w' cs r := by
  obtain ⟨vt, vp, e, hl, hs⟩ := h
  exact ⟨vt, vp, e, hl.keep hb, hs⟩
theorem IsRecs.keep {w w' : World} {v : Value} {l : List Rc} (h : IsRecs w v l) (hb : Below w.heap.size w w') : IsRecs w' v l := ListOf.keep h (fun _ _ hq => hq.keep hb) hb
/-- A record in cells behind one another. -/
structure RecAt (w : World) (b o : Nat) (r : Rc) (vt vp : Value) : Prop where
  c0 : w.cell? ⟨b, o, none⟩ = some (.int .i64 r.kind)
  c1 : w.cell? ⟨b, o + 1, none⟩ = some (.int .i64 r.txn)
  c2 : w.cell? ⟨b, o + 2, none⟩ = some (.int .i64 r.page)
  c3 : w.cell? ⟨b, o + 3, none⟩ = some (.int .i64 r.off)
  c4 : w.cell? ⟨b, o + 4, none⟩ = some (.int .i64 r.prev)
  c5 : w.cell? ⟨b, o + 5, none⟩ = some (.int .i64 r.next)
  c6 : w.cell? ⟨b, o + 6, none⟩ = some (.int .i64 r.beg)
  c7 : w.cell? ⟨b, o + 7, none⟩ = some (.string r.before)
  c8 : w.cell? ⟨b, o + 8, none⟩ = some (.string r.after)
  c9 : w.cell? ⟨b, o + 9, none⟩ = some vt
  c10 : w.cell? ⟨b, o + 10, none⟩ = some vp
theorem RecAt.mk' {w : World} {b o : Nat} {r : Rc} {vt vp : Value} (h : ∀ i u, (recCells r vt vp)[i]? = some u → w.cell? ⟨b, o + i, none⟩ = some u) : RecAt w b o r vt vp :=
  ⟨h 0 _ rfl, h 1 _ rfl, h 2 _ rfl, h 3 _ rfl, h 4 _ rfl, h 5 _ rfl, h 6 _ rfl, h 7 _ rfl, h 8 _ rfl, h 9 _ rfl, h 10 _ rfl⟩
theorem RecAt.keep {w w' : World} {b o : Nat} {r : Rc} {vt vp : Value} (h : RecAt w b o r vt vp) (hb : Below w.heap.size w w') : RecAt w' b o r vt vp := by
  have hlt := World.block_lt_of_cell? w ⟨b, o, none⟩ h.c0
  have k : ∀ x, w'.cell? ⟨b, x, none⟩ = w.cell? ⟨b, x, none⟩ := fun x => hb.cell (p := ⟨b, x, none⟩) hlt
  exact ⟨(k _).trans h.c0, (k _).trans h.c1, (k _).trans h.c2, (k _).trans h.c3, (k _).trans h.c4, (k _).trans h.c5, (k _).trans h.c6, (k _).trans h.c7, (k _).trans h.c8, (k _).trans h.c9, (k _).trans h.c10⟩
/-- One record of the list: its cells, spelled as the walk spells them. -/
theorem IsRecs.at_ {w : World} {v : Value} {l : List Rc} (h : IsRecs w v l) (hl : 0 < l.length) : ∃ b off cap, v = .slice (some ⟨b, off, none⟩) l.length cap ∧ l.length ≤ cap ∧ cap ≤ maxLen ∧ b < w.heap.size ∧
    ∀ j (hj : j < l.length), ∃ ta tc pa pc, Lists w l[j] (.slice ta l[j].txns.length tc) (.slice pa l[j].pages.length pc) ∧ Sized l[j] ∧
      RecAt w b (off + j * 11) l[j] (.slice ta l[j].txns.length tc) (.slice pa l[j].pages.length pc) := by
  rcases h.cases with ⟨rfl, _⟩ | ⟨b, off, cap, rfl, _, h2, h3, h4, h5⟩
  · simp at hl
  refine ⟨b, off, cap, rfl, h2, h3, h4, fun j hj => ?_⟩
  obtain ⟨cs, ⟨vt, vp, rfl, hl, hs⟩, hc⟩ := h5 j hj
  obtain ⟨ta, tc, e⟩ := hl.t.form
  obtain ⟨pa, pc, e'⟩ := hl.p.form
  subst e e'
  exact ⟨ta, tc, pa, pc, hl, hs, .mk' fun i u hu => hc i u (by rw [Array.getElem?_toList]; exact hu)⟩
/-- Truths. -/
def BoolQ (_ : World) (cs : List Value) (b : Bool) : Prop := cs = [.bool b]
abbrev IsBools (w : World) (v : Value) (l : List Bool) : Prop := ListOf 1 BoolQ w v l
theorem IsBools.keep {w w' : World} {v : Value} {l : List Bool} (h : IsBools w v l) (hb : Below w.heap.size w w') : IsBools w' v l := ListOf.keep h (fun _ _ hq => hq) hb
end Go.Proofs.Ytpcfhpffbogjmaa
