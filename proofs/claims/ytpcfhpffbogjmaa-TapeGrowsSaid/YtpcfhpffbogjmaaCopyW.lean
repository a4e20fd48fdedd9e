/- copy at elements of more than one cell; a cell that is written as it was; nothing of the program is imported. -/
import Derived.Test.YtpcfhpffbogjmaaFoot
import Derived.Laws.CopyOwn
namespace Go.Proofs.Ytpcfhpffbogjmaa
open Go.RowKit

section
variable {P : Program}
/-- copy, at elements of c cells, into a row that is known whole: all of it is written. -/
theorem run_copy_wide (w : World) (dT sT ty elem : TypeId) (c g n : Nat) (a : Addr) (sCap : Nat) (cur : Array Value) (t : TypeId) (cs : List Value)
    (hu : P.underlying dT = some (.slice elem)) (hs : (P.info? elem).map (·.size) = some c)
    (hg : Blk w g t cur) (hn : cs.length = n * c) (hsrc : ∀ j v, cs[j]? = some v → w.cell? (a.add j) = some v) (hfit : cur.size = cs.length) (h1 : ∀ v ∈ cs, v.oneCell' = true) :
    (Builtin.copy_ #[dT, sT] ty #[.slice (some ⟨g, 0, none⟩) n n, .slice (some a) n sCap]).run P w = .ok (goInt n) (w.setRow g cs.toArray) := by
  have hl := run_loadCells_list (P := P) w a cs hsrc
  have hst := run_storeCells_at P g 0 t cs 0 cur w hg (by omega) h1
  rw [List.take_zero, List.nil_append, Nat.zero_add, List.drop_of_length_le (by rw [Array.length_toList]; omega), List.append_nil] at hst
  cases hq : P.info? elem with
  | none => simp [hq] at hs
  | some i =>
    have hi : i.size = c := by simpa [hq] using hs
    have hmin : Nat.min n n = n := Nat.min_self n
    simp [Builtin.copy_, run_underlying hu, Builtin.lenOf, Builtin.firstCells, sizeOf, typeInfo, hq, hi, hmin, ← hn, hl, hst]
theorem run_copy_wide_none (w : World) (dT sT ty elem : TypeId) (c : Nat) (d a : Option Addr) (dCap sCap : Nat) (hu : P.underlying dT = some (.slice elem)) (hs : (P.info? elem).map (·.size) = some c) :
    (Builtin.copy_ #[dT, sT] ty #[.slice d 0 dCap, .slice a 0 sCap]).run P w = .ok (goInt 0) w := by
  cases hq : P.info? elem with
  | none => simp [hq] at hs
  | some i =>
    have hl : ∀ (x : Addr), (loadCells x 0).run P w = .ok #[] w := fun x => by simpa using run_loadCells_list (P := P) w x [] (by simp)
    cases d <;> cases a <;> simp [Builtin.copy_, run_underlying hu, Builtin.lenOf, Builtin.firstCells, sizeOf, typeInfo, hq, storeCells, hl]
end
theorem Blk.same {w : World} {g t : Nat} {cs : Array Value} (h : Blk w g t cs) (i : Nat) (v : Value) (hv : cs[i]? = some v) : Blk (w.setCell ⟨g, i, none⟩ v) g t cs := by
  have := h.set i v
  have e : cs.setIfInBounds i v = cs := by
    refine Array.ext_getElem? fun j => ?_
    rw [Array.getElem?_setIfInBounds]
    by_cases hj : i = j
    · subst hj
      obtain ⟨hlt, _⟩ := Array.getElem?_eq_some_iff.1 hv
      rw [if_pos rfl, if_pos hlt, hv]
    · rw [if_neg hj]
  rwa [e] at this
theorem own_ofBlk {w : World} {B g t n c : Nat} {cs : Array Value} (h : Blk w g t cs) (hB : B ≤ g) (hn : n ≤ maxLen) (hs : cs.size = n * c) : w.ownsRow B t c (.slice (some ⟨g, 0, none⟩) n n) n cs.toList :=
  ⟨by rw [Array.length_toList]; exact hs, .inr ⟨g, n, cs, rfl, hB, h, Nat.le_refl _, hn, hs, List.take_of_length_le (by rw [Array.length_toList, hs]; exact Nat.le_refl _)⟩⟩
/-- A cell that is written as it was. -/
theorem setCell_same {w : World} {g t : Nat} {cs : Array Value} (h : Blk w g t cs) (i : Nat) (v : Value) (hv : cs[i]? = some v) : Below w.heap.size w (w.setCell ⟨g, i, none⟩ v) := by
  refine ⟨rfl, rfl, rfl, by simp [World.setCell], fun b _ => ?_⟩
  by_cases e : b = g
  · subst e; exact (h.same i v hv).trans h.symm
  · exact heap_setCell_other w ⟨g, i, none⟩ b v e
end Go.Proofs.Ytpcfhpffbogjmaa
