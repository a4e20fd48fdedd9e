/- Package chain: rise; slices.BinarySearchFunc of entries; find. -/
import Derived.Test.YtkodnjefdophmaaEnt
import Derived.Test.YtkodnjefdophmaaChC
namespace Go.Proofs.Ytkodnjefdophmaa
open Go.RowKit

theorem rises_iff (l : List En) : Ch.Rises l ↔ ∀ k (h : k + 1 < l.length), l[k].1 < l[k + 1].1 := by
  constructor
  · intro h k hk
    exact List.pairwise_iff_getElem.1 h k (k + 1) (by omega) hk (by omega)
  · intro h
    refine List.pairwise_iff_getElem.2 fun i j hi hj hij => ?_
    obtain ⟨d, rfl⟩ : ∃ d, j = i + 1 + d := ⟨j - i - 1, by omega⟩
    clear hij
    induction d with
    | zero => exact h i hj
    | succ d ih => exact Int.lt_trans (ih (by omega)) (h (i + 1 + d) hj)

/-- An entry's twelve cells. -/
theorem EntsAt.whole {w : World} {a : Option Addr} {l : List Ent} (h : EntsAt w a l) (j : Nat) (hj : j < l.length) : ∃ b off vt vp, a = some ⟨b, off, none⟩ ∧ b < w.heap.size ∧ Lists w l[j].2 vt vp ∧
    ∀ i x, (entCells l[j].1 l[j].2 vt vp)[i]? = some x → w.cell? ⟨b, off + j * 12 + i, none⟩ = some x := by
  obtain ⟨b, off, vt, vp, e, lt, c0, ci, hl⟩ := h j hj
  refine ⟨b, off, vt, vp, e, lt, hl, fun i x hi => ?_⟩
  cases i with
  | zero => cases hi; exact c0
  | succ i =>
    have := ci i x (by
      have : (entCells l[j].1 l[j].2 vt vp)[i + 1]? = (recCells l[j].2 vt vp)[i]? := by
        rw [← Array.getElem?_toList, ← Array.getElem?_toList]; rfl
      rw [← this]; exact hi)
    rwa [show off + j * 12 + (i + 1) = off + j * 12 + 1 + i by omega]

/-- Where a place stands, or would. -/
structure SpotE (l : List En) (p : Int) (i : Nat) : Prop where
  le : i ≤ l.length
  less : ∀ j (h : j < l.length), j < i → l[j].1 < p
  more : ∀ j (h : j < l.length), i ≤ j → p ≤ l[j].1
theorem rises_lt {l : List En} (h : Ch.Rises l) {i j : Nat} (hj : j < l.length) (hij : i < j) : l[i].1 < l[j].1 := List.pairwise_iff_getElem.1 h i j (by omega) hj hij

end Go.Proofs.Ytkodnjefdophmaa
