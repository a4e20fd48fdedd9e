/- Entries: records, each with its place, in a slice. -/
import Derived.Test.YtkodnjefdophmaaRecK
import Derived.Test.YtkodnjefdophmaaRegion
namespace Go.Proofs.Ytkodnjefdophmaa
open Go.RowKit

abbrev Ent := Int × Rc
def EntsAt (w : World) (a : Option Addr) (l : List Ent) : Prop :=
  ∀ j (hj : j < l.length), ∃ b off vt vp, a = some ⟨b, off, none⟩ ∧ b < w.heap.size ∧ w.cell? ⟨b, off + j * 12, none⟩ = some (.int .i64 l[j].1) ∧
    (∀ i x, (recCells l[j].2 vt vp)[i]? = some x → w.cell? ⟨b, off + j * 12 + 1 + i, none⟩ = some x) ∧ Lists w l[j].2 vt vp
theorem EntsAt.keep {w w' : World} {a : Option Addr} {l : List Ent} (h : EntsAt w a l) (hb : Below w.heap.size w w') : EntsAt w' a l := by
  intro j hj
  obtain ⟨b, off, vt, vp, rfl, hlt, c0, ci, hl⟩ := h j hj
  refine ⟨b, off, vt, vp, rfl, Nat.lt_of_lt_of_le hlt hb.size, ?_, fun i x hi => ?_, hl.keep hb⟩
  · rw [hb.cell (p := ⟨b, off + j * 12, none⟩) hlt]; exact c0
  · rw [hb.cell (p := ⟨b, off + j * 12 + 1 + i, none⟩) hlt]; exact ci i x hi
def IsEnts (w : World) (v : Value) (l : List Ent) : Prop :=
  ∃ (a : Option Addr) (cap : Nat), v = .slice a l.length cap ∧ l.length ≤ cap ∧ cap ≤ maxLen ∧ EntsAt w a l
namespace IsEnts
variable {w w' : World} {v : Value} {l : List Ent}
theorem nil (w : World) : IsEnts w (.slice none 0 0) [] := ⟨none, 0, rfl, Nat.le_refl _, Nat.zero_le _, fun j hj => by simp at hj⟩
theorem keep (h : IsEnts w v l) (hb : Below w.heap.size w w') : IsEnts w' v l := by
  obtain ⟨a, cap, rfl, h1, h2, hx⟩ := h
  exact ⟨a, cap, rfl, h1, h2, hx.keep hb⟩
end IsEnts

theorem ents_at {l m : List Ent} (h : l = m) (j : Nat) (hj : j < l.length) (hm : j < m.length) : l[j] = m[j] := by subst h; rfl
theorem ents_eq {l m : List Ent} (hn : l.length = m.length) (h : ∀ j (hj : j < l.length) (hm : j < m.length), j < l.length → l[j] = m[j]) : l = m := List.ext_getElem hn fun j h1 h2 => h j h1 h2 h1

end Go.Proofs.Ytkodnjefdophmaa
