/- Footprints: which blocks a call may change; slices of one's own that are written and read; nothing of the program is imported. -/
import Derived.Test.YtpcfhpffbogjmaaMap
import Derived.Laws.OwnMore
import Derived.Deep.AppendLies
import Derived.Maps.AppendAt
namespace Go.Proofs.Ytpcfhpffbogjmaa
open Go.RowKit

abbrev Foot := Nat → Prop
/-- From w to w' only blocks of F were written; those of F' are of F, or new. -/
structure Step (F F' : Foot) (w w' : World) : Prop where
  os : w'.os = w.os
  tape : w'.tape = w.tape
  output : w'.output = w.output
  size : w.heap.size ≤ w'.heap.size
  block : ∀ b, b < w.heap.size → ¬ F b → w'.heap[b]? = w.heap[b]?
  foot : ∀ b, F' b → F b ∨ w.heap.size ≤ b
namespace Step
variable {F F' F'' : Foot} {w w' w'' : World}
theorem refl (F : Foot) (w : World) : Step F F w w := ⟨rfl, rfl, rfl, Nat.le_refl _, fun _ _ _ => rfl, fun _ h => .inl h⟩
theorem trans (h : Step F F' w w') (k : Step F' F'' w' w'') : Step F F'' w w'' :=
  ⟨k.os.trans h.os, k.tape.trans h.tape, k.output.trans h.output, Nat.le_trans h.size k.size,
   fun b hb hf => (k.block b (Nat.lt_of_lt_of_le hb h.size) fun g => (h.foot b g).elim hf (by omega)).trans (h.block b hb hf),
   fun b hb => (k.foot b hb).elim (fun g => h.foot b g) (fun g => .inr (Nat.le_trans h.size g))⟩
theorem ofBelow (h : Below w.heap.size w w') : Step F F w w' := ⟨h.os, h.tape, h.output, h.size, fun b hb _ => h.block b hb, fun _ g => .inl g⟩
theorem below (h : Step F F' w w') (hF : ∀ b, F b → w.heap.size ≤ b) : Below w.heap.size w w' := ⟨h.os, h.tape, h.output, h.size, fun b hb => h.block b hb fun g => by have := hF b g; omega⟩
theorem belowB {B : Nat} {a : World} (h : Step F F' w w') (hF : ∀ b, F b → B ≤ b) (k : Below B a w) (hB : B ≤ w.heap.size) : Below B a w' :=
  ⟨h.os.trans k.os, h.tape.trans k.tape, h.output.trans k.output, Nat.le_trans k.size h.size, fun b hb => (h.block b (by omega) fun g => by have := hF b g; omega).trans (k.block b hb)⟩
theorem from_ {B : Nat} (h : Step F F' w w') (hF : ∀ b, F b → B ≤ b) (hB : B ≤ w.heap.size) : ∀ b, F' b → B ≤ b := fun b hb => (h.foot b hb).elim (hF b) (fun g => Nat.le_trans hB g)
theorem drew (h : Step F F' w w') : Step F F' w w'.drew := ⟨h.os, h.tape, h.output, h.size, h.block, h.foot⟩
theorem more (h : Step F F' w w') (k : Below w'.heap.size w' w'') : Step F F' w w'' := h.trans (.ofBelow k)
theorem alloc (h : Step F F' w w') (o : Obj) : Step F F' w (w'.alloc o) := h.more ((Below.refl _ _).alloc (Nat.le_refl _) _)
/-- A store into a block of the footprint. -/
theorem set (h : Step F F' w w') {p : Addr} (hp : F' p.block) (v : Value) : Step F F' w (w'.setCell p v) :=
  h.trans ⟨rfl, rfl, rfl, by simp [World.setCell], fun b _ hf => Below.heap_setCell w' p v b (fun e => hf (e ▸ hp)), fun _ g => .inl g⟩
theorem setObj (h : Step F F' w w') {b : Nat} (hb : F' b) (o : Obj) : Step F F' w { w' with heap := w'.heap.setIfInBounds b o } :=
  h.trans ⟨rfl, rfl, rfl, by simp, fun i _ hf => (show (w'.heap.setIfInBounds b o)[i]? = _ by rw [Array.getElem?_setIfInBounds, if_neg (fun e : b = i => hf (e ▸ hb))]), fun _ g => .inl g⟩
/-- A row of the footprint was written, or a new one made. -/
theorem grown (h : Step F F' w w') {row : Option Nat} (hg : w'.grownBy w'' row) (hr : ∀ b, row = some b → F' b) : Step F F' w w'' :=
  h.trans ⟨hg.os, hg.tape, hg.output, hg.size, fun b hb hf => hg.block b hb fun e => hf (hr b e.symm), fun _ g => .inl g⟩
/-- What is new may be of the footprint, too. -/
theorem widen (h : Step F F' w w') : Step F (fun b => F' b ∨ (w.heap.size ≤ b ∧ b < w'.heap.size)) w w' :=
  ⟨h.os, h.tape, h.output, h.size, h.block, fun b g => g.elim (h.foot b) fun g => .inr g.1⟩
end Step

section
variable {w w' : World} {base size n : Nat} {e : TypeId} {v : Value} {xs : List Value} {F : Foot}
theorem own_keep (h : w.ownsRow base e size v n xs) (hk : ∀ b, v.ownBlock = some b → w'.heap[b]? = w.heap[b]?) : w'.ownsRow base e size v n xs := by
  obtain ⟨hl, h | ⟨g, cap, cur, rfl, hb, hg, h1, h2, h3, h4⟩⟩ := h
  · exact ⟨hl, .inl h⟩
  · exact ⟨hl, .inr ⟨g, cap, cur, rfl, hb, (hk g rfl).trans hg, h1, h2, h3, h4⟩⟩
theorem own_below (h : w.ownsRow base e size v n xs) (hb : Below w.heap.size w w') : w'.ownsRow base e size v n xs := own_keep h fun b hv => hb.block b (h.lt b hv).2
/-- Rows of unlike element types lie apart. -/
theorem own_apart {e' size' n' : Nat} {base' : Nat} {v' : Value} {xs' : List Value} (h : w.ownsRow base e size v n xs) (h' : w.ownsRow base' e' size' v' n' xs') (hne : e ≠ e') {b : Nat} (hv : v.ownBlock = some b) : v'.ownBlock ≠ some b := by
  intro hv'
  obtain ⟨_, ⟨rfl, _⟩ | ⟨g, cap, cur, rfl, _, hg, _⟩⟩ := h
  · simp [Value.ownBlock] at hv
  obtain ⟨_, ⟨rfl, _⟩ | ⟨g', cap', cur', rfl, _, hg', _⟩⟩ := h'
  · simp [Value.ownBlock] at hv'
  simp only [Value.ownBlock, Option.some.injEq] at hv hv'
  subst hv; subst hv'
  rw [hg] at hg'
  simp only [Option.some.injEq, Obj.cells.injEq] at hg'
  exact hne hg'.2.1
theorem own_blk {t : TypeId} {g : Nat} {cs : Array Value} (h : w.ownsRow base e size v n xs) (hb : Blk w g t cs) (hne : e ≠ t) : v.ownBlock ≠ some g := by
  intro hv
  obtain ⟨_, ⟨rfl, _⟩ | ⟨g', cap, cur, rfl, _, hg, _⟩⟩ := h
  · simp [Value.ownBlock] at hv
  simp only [Value.ownBlock, Option.some.injEq] at hv
  subst hv
  unfold Blk at hb
  rw [hg] at hb
  simp only [Option.some.injEq, Obj.cells.injEq] at hb
  exact hne hb.2.1
theorem own_map {f : Int → Option Value} {g : Nat} (h : w.ownsRow base e size v n xs) (hb : IsMap w g f) : v.ownBlock ≠ some g := by
  intro hv
  obtain ⟨_, ⟨rfl, _⟩ | ⟨g', cap, cur, rfl, _, hg, _⟩⟩ := h
  · simp [Value.ownBlock] at hv
  simp only [Value.ownBlock, Option.some.injEq] at hv
  subst hv
  obtain ⟨es, c, hb, _⟩ := hb
  rw [hg] at hb
  cases hb
/-- Its form, if it isn't empty. -/
theorem own_form (h : w.ownsRow base e size v n xs) (hn : 0 < n) : ∃ g cap, v = .slice (some ⟨g, 0, none⟩) n cap ∧ n ≤ cap ∧ cap ≤ maxLen := by
  obtain ⟨_, ⟨rfl, h0⟩ | ⟨g, cap, cur, rfl, _, _, h1, h2, _⟩⟩ := h
  · omega
  · exact ⟨g, cap, rfl, h1, h2⟩
theorem own_any (h : w.ownsRow base e size v n xs) : (v = .slice none 0 0 ∧ n = 0 ∧ xs = []) ∨ ∃ g cap, v = .slice (some ⟨g, 0, none⟩) n cap ∧ n ≤ cap ∧ cap ≤ maxLen := by
  obtain ⟨hl, ⟨rfl, rfl⟩ | ⟨g, cap, cur, rfl, _, _, h1, h2, _⟩⟩ := h
  · exact .inl ⟨rfl, rfl, List.eq_nil_of_length_eq_zero (by omega)⟩
  · exact .inr ⟨g, cap, rfl, h1, h2⟩
theorem own_slice (h : w.ownsRow base e size v n xs) : ∃ ra rc, v = .slice ra n rc := by
  rcases own_any h with ⟨rfl, rfl, _⟩ | ⟨q, c, rfl, _⟩
  · exact ⟨none, 0, rfl⟩
  · exact ⟨_, _, rfl⟩
end
end Go.Proofs.Ytpcfhpffbogjmaa
