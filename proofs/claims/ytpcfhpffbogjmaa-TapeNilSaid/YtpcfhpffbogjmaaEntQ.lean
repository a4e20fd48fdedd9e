/- Entries that one owns: a list that was appended to; each record's rows lie in blocks that are not the list's. -/
import Derived.Test.YtpcfhpffbogjmaaEntP
import Derived.Test.YtpcfhpffbogjmaaEnt
import Derived.Test.YtpcfhpffbogjmaaRecF
namespace Go.Proofs.Ytpcfhpffbogjmaa
open Go.RowKit

structure Qe where
  at_ : Int
  r : Rc
  vt : Value
  vp : Value
def Qe.ent (x : Qe) : Ent := (x.at_, x.r)
def Qe.cells (x : Qe) : List Value := .int .i64 x.at_ :: (recCells x.r x.vt x.vp).toList
theorem Qe.cells_len (x : Qe) : x.cells.length = 12 := rfl
def entsV (q : List Qe) : List Value := q.flatMap Qe.cells
theorem entsV_len (q : List Qe) : (entsV q).length = q.length * 12 := by
  induction q with
  | nil => rfl
  | cons x q ih => show (x.cells ++ entsV q).length = _; rw [List.length_append, ih, Qe.cells_len, List.length_cons]; omega
theorem entsV_snoc (q : List Qe) (x : Qe) : entsV (q ++ [x]) = entsV q ++ x.cells := by simp [entsV]
theorem entsV_at : ∀ (q : List Qe) (j : Nat) (h : j < q.length) (i : Nat) (_ : i < 12), (entsV q)[j * 12 + i]? = q[j].cells[i]?
  | [], j, h, _, _ => by simp at h
  | x :: q, 0, _, i, hi => by
    show (x.cells ++ entsV q)[0 * 12 + i]? = x.cells[i]?
    rw [List.getElem?_append_left (by rw [Qe.cells_len]; omega)]
    simp
  | x :: q, j + 1, h, i, hi => by
    show (x.cells ++ entsV q)[(j + 1) * 12 + i]? = _
    rw [List.getElem?_append_right (by rw [Qe.cells_len]; omega), Qe.cells_len, show (j + 1) * 12 + i - 12 = j * 12 + i by omega, entsV_at q j (by simpa using h) i hi]
    rfl
/-- Rows that aren't empty lie in no block of v's. -/
def Apart (v : Value) (x : Qe) : Prop := ∀ b, v.ownBlock = some b → (rows3 x.r.txns ≠ [] → x.vt.ownBlock ≠ some b) ∧ (rows2 x.r.pages ≠ [] → x.vp.ownBlock ≠ some b)
structure OwnE (w : World) (B : Nat) (v : Value) (q : List Qe) : Prop where
  own : w.ownsRow B 58 12 v q.length (entsV q)
  lists : ∀ x ∈ q, Lists w x.r x.vt x.vp
  apart : ∀ x ∈ q, Apart v x
theorem Lists.keepA {S : Nat → Prop} {w w' : World} {r : Rc} {vt vp : Value} (h : Lists w r vt vp) (hb : Only S w w') (ht : rows3 r.txns ≠ [] → ∀ b, vt.ownBlock = some b → ¬ S b) (hp : rows2 r.pages ≠ [] → ∀ b, vp.ownBlock = some b → ¬ S b) : Lists w' r vt vp :=
  ⟨h.t.keepS hb ht, h.p.keepS hb hp⟩
theorem Elems.blt {w : World} {v : Value} {n : Nat} {xs : List Value} (h : Elems w v n xs) (hx : xs ≠ []) : ∀ b, v.ownBlock = some b → b < w.heap.size := by
  obtain ⟨b, off, cap, rfl, _, _, hb, _⟩ := h.cases hx
  intro b' hb'
  cases hb'
  exact hb
namespace OwnE
variable {w w' : World} {B : Nat} {v : Value} {q : List Qe}
theorem nil (w : World) (B : Nat) : OwnE w B (.slice none 0 0) [] := ⟨World.ownsRow_nil w B _ 12, fun x h => by simp at h, fun x h => by simp at h⟩
theorem keep (h : OwnE w B v q) (hb : Below w.heap.size w w') : OwnE w' B v q := ⟨own_below h.own hb, fun x hx => (h.lists x hx).keep hb, h.apart⟩
theorem drew (h : OwnE w B v q) : OwnE w.drew B v q := h.keep ⟨rfl, rfl, rfl, Nat.le_refl _, fun _ _ => rfl⟩
theorem isEnts (h : OwnE w B v q) : IsEnts w v (q.map Qe.ent) := by
  rcases own_any h.own with ⟨rfl, h0, _⟩ | ⟨g, cap, rfl, h1, h2⟩
  · have : q = [] := List.eq_nil_of_length_eq_zero h0
    subst this
    exact IsEnts.nil w
  · refine ⟨some ⟨g, 0, none⟩, cap, by simp, by simpa using h1, h2, fun j hj => ?_⟩
    have hj' : j < q.length := by simpa using hj
    have he : (q.map Qe.ent)[j] = (q[j].at_, q[j].r) := by simp [Qe.ent]
    have hc : ∀ i, i < 12 → w.cell? ⟨g, 0 + j * 12 + i, none⟩ = q[j].cells[i]? := fun i hi => by
      rw [Nat.zero_add, h.own.cellAt (j * 12 + i) (by omega), entsV_at q j hj' i hi]
    refine ⟨g, 0, q[j].vt, q[j].vp, rfl, (h.own.lt g rfl).2, ?_, fun i x hx => ?_, ?_⟩
    · rw [he]; exact hc 0 (by omega)
    · rw [he] at hx
      have hi : i < 11 := by
        have := (Array.getElem?_eq_some_iff.1 hx).1
        rwa [recCells_size] at this
      rw [show 0 + j * 12 + 1 + i = 0 + j * 12 + (i + 1) by omega, hc (i + 1) (by omega)]
      show (recCells q[j].r q[j].vt q[j].vp).toList[i]? = _
      rw [Array.getElem?_toList]; exact hx
    · rw [he]; exact h.lists _ (List.getElem_mem hj')
/-- An entry was appended: the list lies where it lay, or in a new block. -/
theorem pushed (h : OwnE w B v q) {x : Qe} (hl : Lists w x.r x.vt x.vp) (hx : Apart v x) {g cap : Nat} (ho : w'.ownsRow B 58 12 (.slice (some ⟨g, 0, none⟩) (q.length + 1) cap) (q.length + 1) (entsV q ++ x.cells))
    (hg : w.grownBy w' v.ownBlock) (hat : v.ownBlock = some g ∨ g = w.heap.size) : OwnE w' B (.slice (some ⟨g, 0, none⟩) (q.length + 1) cap) (q ++ [x]) := by
  have hon : Only (fun b => v.ownBlock = some b) w w' := (Only.refl _ w).grown hg fun b hb => .inl hb
  have hall : ∀ y ∈ q ++ [x], Lists w y.r y.vt y.vp ∧ Apart v y := fun y hy => by
    rcases List.mem_append.1 hy with hy | hy
    · exact ⟨h.lists y hy, h.apart y hy⟩
    · simp at hy; subst hy; exact ⟨hl, hx⟩
  refine ⟨?_, fun y hy => ?_, fun y hy b hb => ?_⟩
  · rw [entsV_snoc, List.length_append]; exact ho
  · obtain ⟨hly, hay⟩ := hall y hy
    exact hly.keepA hon (fun hr b hb hv => (hay b hv).1 hr hb) (fun hr b hb hv => (hay b hv).2 hr hb)
  · obtain ⟨hly, hay⟩ := hall y hy
    have hbg : b = g := by simpa [Value.ownBlock] using hb.symm
    subst hbg
    rcases hat with hat | hat
    · exact hay b hat
    · exact ⟨fun hr hv => by have := hly.t.blt hr b hv; omega, fun hr hv => by have := hly.p.blt hr b hv; omega⟩
end OwnE
theorem New.apart {w : World} {B : Nat} {v : Value} {q : List Qe} (h : OwnE w B v q) {at_ : Int} {r : Rc} {vt vp : Value} (nt : New w vt) (np : New w vp) : Apart v ⟨at_, r, vt, vp⟩ := fun b hb =>
  ⟨fun _ hv => by have := (h.own.lt b hb).2; have := nt b hv; omega, fun _ hv => by have := (h.own.lt b hb).2; have := np b hv; omega⟩
end Go.Proofs.Ytpcfhpffbogjmaa
