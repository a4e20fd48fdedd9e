/- Which blocks were written; nothing of the program is imported. -/
import Derived.Test.YtpcfhpffbogjmaaBase
namespace Go.Proofs.Ytpcfhpffbogjmaa
open Go.RowKit

/-- From w to w' only blocks of S were written, and new ones made. -/
structure Only (S : Nat → Prop) (w w' : World) : Prop where
  os : w'.os = w.os
  tape : w'.tape = w.tape
  output : w'.output = w.output
  size : w.heap.size ≤ w'.heap.size
  block : ∀ b, b < w.heap.size → ¬ S b → w'.heap[b]? = w.heap[b]?
namespace Only
variable {S T : Nat → Prop} {w w' w'' : World}
theorem refl (S : Nat → Prop) (w : World) : Only S w w := ⟨rfl, rfl, rfl, Nat.le_refl _, fun _ _ _ => rfl⟩
/-- What the second call may write is of S, or new. -/
theorem and_ (h : Only S w w') (k : Only T w' w'') (hT : ∀ b, T b → S b ∨ w.heap.size ≤ b) : Only S w w'' :=
  ⟨k.os.trans h.os, k.tape.trans h.tape, k.output.trans h.output, Nat.le_trans h.size k.size, fun b hb hs => (k.block b (Nat.lt_of_lt_of_le hb h.size) fun g => (hT b g).elim hs (by omega)).trans (h.block b hb hs)⟩
theorem trans (h : Only S w w') (k : Only S w' w'') : Only S w w'' := h.and_ k fun _ => .inl
theorem ofBelow (h : Below w.heap.size w w') : Only S w w' := ⟨h.os, h.tape, h.output, h.size, fun b hb _ => h.block b hb⟩
theorem more (h : Only S w w') (k : Below w'.heap.size w' w'') : Only S w w'' := h.trans (.ofBelow k)
theorem alloc (h : Only S w w') (o : Obj) : Only S w (w'.alloc o) := h.more ((Below.refl _ _).alloc (Nat.le_refl _) _)
theorem drew (h : Only S w w') : Only S w w'.drew := ⟨h.os, h.tape, h.output, h.size, h.block⟩
theorem drewN (h : Only S w w') (n : Nat) : Only S w (w'.drewN n) := ⟨h.os, h.tape, h.output, h.size, h.block⟩
theorem set (h : Only S w w') {p : Addr} (hp : S p.block ∨ w.heap.size ≤ p.block) (v : Value) : Only S w (w'.setCell p v) :=
  h.and_ (T := fun b => b = p.block) ⟨rfl, rfl, rfl, by simp [World.setCell], fun b _ hf => Below.heap_setCell w' p v b hf⟩ fun b hb => by subst hb; exact hp
theorem grown (h : Only S w w') {row : Option Nat} (hg : w'.grownBy w'' row) (hr : ∀ b, row = some b → S b ∨ w.heap.size ≤ b) : Only S w w'' :=
  h.and_ (T := fun b => row = some b) ⟨hg.os, hg.tape, hg.output, hg.size, fun b hb hf => hg.block b hb fun e => hf e.symm⟩ fun b hb => hr b hb
theorem setRow (h : Only S w w') {g : Nat} (hp : S g ∨ w.heap.size ≤ g) (cs : Array Value) : Only S w (w'.setRow g cs) :=
  h.and_ (T := fun b => b = g) ⟨rfl, rfl, rfl, by simp [World.setRow], fun b _ hf => setRow_other w' g b cs hf⟩ fun b hb => by subst hb; exact hp
theorem below (h : Only S w w') {B : Nat} {a : World} (k : Below B a w) (hB : B ≤ w.heap.size) (hS : ∀ b, S b → B ≤ b) : Below B a w' :=
  ⟨h.os.trans k.os, h.tape.trans k.tape, h.output.trans k.output, Nat.le_trans k.size h.size, fun b hb => (h.block b (by omega) fun g => by have := hS b g; omega).trans (k.block b hb)⟩
theorem widen (h : Only S w w') (hT : ∀ b, S b → T b ∨ w.heap.size ≤ b) : Only T w w' := (refl T w).and_ h hT
theorem blk {g t : Nat} {cs : Array Value} (h : Only S w w') (hb : Blk w g t cs) (hg : ¬ S g) : Blk w' g t cs := (h.block g hb.lt hg).trans hb
end Only
end Go.Proofs.Ytpcfhpffbogjmaa
