/- What serves slices.AppendSeq over maps.Values: what a row that is appended to keeps; nothing of the program is imported. -/
import Derived.RangeFuncNested
import Derived.RangeFuncLeaves
import Derived.RangeFuncBound
import Derived.RangeFuncCalls
import Derived.Shelf.Abstract
import Derived.Shelf.RegionOpen
import Derived.OwnWalkIn
import Derived.TacticsInMore
import Derived.LoopNIn
import Derived.LoopIn
import Derived.Test.YtgjkhjlobfblcaaGives
import Derived.Test.YtgjkhjlobfblcaaRng
import Derived.Test.YtgjkhjlobfblcaaFoot
namespace Go.Proofs.Ytgjkhjlobfblcaa
open Go.RowKit Go.MapKept

/-- Behind 'x = append(x, ..)': the box, the row, what is kept. -/
theorem appendedB {W w1 : World} {m n b0 : Nat} {t e : TypeId} {size k k' : Nat} {v v' : Value} {xs ys : List Value} {tmp : Obj} (hv : Blk W b0 t #[v]) (hrow : W.ownsRow n e size v k xs) (hm : m ≤ b0) (hb : b0 < n) (hn : n ≤ W.heap.size)
    (hown : w1.ownsRow n e size v' k' ys) (hg : (W.alloc tmp).grownBy w1 v.ownBlock) :
    Blk w1 b0 t #[v] ∧ Blk (w1.setCell ⟨b0, 0, none⟩ v') b0 t #[v'] ∧ (w1.setCell ⟨b0, 0, none⟩ v').ownsRow n e size v' k' ys ∧ KeepsOthers W (w1.setCell ⟨b0, 0, none⟩ v') ∧ Below m W (w1.setCell ⟨b0, 0, none⟩ v') := by
  have hge : ∀ j, v.ownBlock = some j → n ≤ j := fun j hj => (hrow.lt j hj).1
  have hv1 : Blk w1 b0 t #[v] := (hg.block b0 (by simp; have := hv.lt; omega) fun ej => by have := hge b0 ej.symm; omega).trans (hv.alloc tmp)
  refine ⟨hv1, hv1.set 0 v', ?_, ?_, ?_⟩
  · exact hown.kept (grownBy_setCell' w1 b0 v') (.inr fun ej => by have := (hown.lt b0 ej).1; omega)
  · refine ((KeepsOthers.alloc W tmp).trans (KeepsOthers.of_grownBy hg fun j o ej hj => ?_)).trans (KeepsOthers.setCell _ _ _)
    rcases hrow.2 with ⟨rfl, _⟩ | ⟨g, cap, cur, rfl, _, hgb, _⟩
    · simp [Value.ownBlock] at ej
    · obtain rfl : g = j := by simpa [Value.ownBlock] using ej
      have h1 : (W.alloc tmp).heap[g]? = some (.cells cur e (0, 0)) := (Blk.alloc (w := W) hgb tmp)
      rw [h1] at hj; cases hj; rfl
  · exact (((Below.refl m W).alloc (by omega) tmp).grown hg (by simp; omega) fun j ej => by have := hge j ej; omega).setCell (p := ⟨b0, 0, none⟩) hm v'
theorem ownRow_turnB {B n : Nat} {e : TypeId} {size k : Nat} {u : Value} {xs : List Value} {A C : World} {row : Option Nat} (h : A.ownsRow n e size u k xs) (hg : A.grownBy C row) (hr : ∀ r, row = some r → B ≤ r ∧ ∃ o : Obj, A.heap[r]? = some o ∧ o.isCells = false) : C.ownsRow n e size u k xs := by
  refine h.kept hg ?_
  rcases h.2 with ⟨rfl, _⟩ | ⟨g, cap, cur, rfl, _, hgb, _⟩
  · exact .inl rfl
  · refine .inr fun e' => ?_
    obtain ⟨_, o, ho, hc⟩ := hr g (by simpa [Value.ownBlock] using e'.symm)
    rw [hgb] at ho; cases ho; cases hc
/-- The box and the row between two rounds. -/
structure Box13 (w : World) (n b0 : Nat) (tb te : TypeId) (size : Nat) (xs : List Value) (k : Nat) (X : World) : Prop where
  below : Below w.heap.size w X
  z : n ≤ X.heap.size
  b : ∃ u, Blk X b0 tb #[u] ∧ X.ownsRow n te size u k xs ∧ (k = 0 → u = .slice none 0 0)
theorem own_box13 {β : Type} {w : World} {n b0 B : Nat} {tb te : TypeId} {size : Nat} {xs : β → List Value} {k : β → Nat} (hB : w.heap.size ≤ B) : OwnFrom B (fun s X => Box13 w n b0 tb te size (xs s) (k s) X) := fun _ A C row hs hg hr =>
  ⟨ownFrom_below (β := Unit) (Nat.le_refl _) hB () A C row hs.below hg hr, Nat.le_trans hs.z hg.size, let ⟨u, h1, h2, h3⟩ := hs.b; ⟨u, ownFrom_cells (β := Unit) _ _ _ _ _ () A C row h1 hg hr, ownRow_turnB h2 hg hr, h3⟩⟩
theorem Rng.walkT {α : Type} {w : World} {b r : Nat} {f : α → Value × Value} {T : List α} (h : Rng w b r f T) : ∃ o : Obj, w.heap[r]? = some o ∧ o.isWalk = true := by
  obtain ⟨_, _, _, _, _, _, _, hr, _⟩ := h
  exact ⟨_, hr, rfl⟩
theorem Rng.walks {α : Type} {w w' : World} {b r : Nat} {f : α → Value × Value} {T : List α} (h : Rng w b r f T) (hk : KeepsWalks w w') : Rng w' b r f T := by
  obtain ⟨es, clock, since, seen, c0, hb, h2, hr, h4⟩ := h
  exact ⟨es, clock, since, seen, c0, hk.same _ _ hb rfl, h2, hk.same _ _ hr rfl, h4⟩
end Go.Proofs.Ytgjkhjlobfblcaa
