/- Slices that are read: what their elements are; nothing of the program is imported. -/
import Derived.Test.YtpcfhpffbogjmaaBase
import Derived.Deep.Slices
namespace Go.Proofs.Ytpcfhpffbogjmaa
open Go.RowKit

/-- A slice reads as these values (nil and empty ones too). -/
def Reads (w : World) (v : Value) (vs : List Value) : Prop :=
  ∃ (a : Option Addr) (cap : Nat), v = .slice a vs.length cap ∧ vs.length ≤ cap ∧ ∀ j x, vs[j]? = some x → ∃ b off, a = some ⟨b, off, none⟩ ∧ w.cell? ⟨b, off + j, none⟩ = some x
/-- Nothing; or cells behind one another. -/
theorem Reads.cases {w : World} {v : Value} {vs : List Value} (h : Reads w v vs) :
    (vs = [] ∧ ∃ a cap, v = .slice a 0 cap) ∨ ∃ b off cap, v = .slice (some ⟨b, off, none⟩) vs.length cap ∧ 0 < vs.length ∧ vs.length ≤ cap ∧ b < w.heap.size ∧ ∀ j x, vs[j]? = some x → w.cell? ⟨b, off + j, none⟩ = some x := by
  obtain ⟨a, cap, rfl, hc, hx⟩ := h
  cases vs with
  | nil => exact .inl ⟨rfl, a, cap, rfl⟩
  | cons y ys =>
    obtain ⟨b, off, rfl, h0⟩ := hx 0 y rfl
    refine .inr ⟨b, off, cap, rfl, by simp, hc, World.block_lt_of_cell? w ⟨b, off + 0, none⟩ h0, fun j x hj => ?_⟩
    obtain ⟨b', off', e, h⟩ := hx j x hj
    simp only [Option.some.injEq, Addr.mk.injEq, and_true] at e
    obtain ⟨rfl, rfl⟩ := e
    exact h
theorem Reads.keep {w w' : World} {v : Value} {vs : List Value} (h : Reads w v vs) (hb : Below w.heap.size w w') : Reads w' v vs := by
  obtain ⟨a, cap, rfl, hc, hx⟩ := h
  refine ⟨a, cap, rfl, hc, fun j x hj => ?_⟩
  obtain ⟨b, off, e, h⟩ := hx j x hj
  exact ⟨b, off, e, (hb.cell (p := ⟨b, off + j, none⟩) (World.block_lt_of_cell? w ⟨b, off + j, none⟩ h)).trans h⟩
theorem Reads.mk' {w : World} {b off cap : Nat} {vs : List Value} (hc : vs.length ≤ cap) (h : ∀ j x, vs[j]? = some x → w.cell? ⟨b, off + j, none⟩ = some x) : Reads w (.slice (some ⟨b, off, none⟩) vs.length cap) vs :=
  ⟨_, _, rfl, hc, fun j x hj => ⟨b, off, rfl, h j x hj⟩⟩
theorem Reads.empty (w : World) (a : Option Addr) (cap : Nat) : Reads w (.slice a 0 cap) [] := ⟨a, cap, rfl, Nat.zero_le _, fun j x hj => by simp at hj⟩
end Go.Proofs.Ytpcfhpffbogjmaa
