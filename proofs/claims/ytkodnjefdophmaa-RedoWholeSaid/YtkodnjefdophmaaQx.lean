/- Entries as they lie in memory: a list of entries that one appends to. -/
import Derived.Test.YtkodnjefdophmaaEnt
import Derived.Test.YtkodnjefdophmaaChC
namespace Go.Proofs.Ytkodnjefdophmaa
open Go.RowKit

/-- An entry as it lies in memory. -/
structure Qx where
  at_ : Int
  r : Rc
  vt : Value
  vp : Value
def Qx.ent (x : Qx) : En := (x.at_, x.r)
def Qx.cells (x : Qx) : List Value := (entCells x.at_ x.r x.vt x.vp).toList
theorem Qx.cells_len (x : Qx) : x.cells.length = 12 := rfl
def qV (q : List Qx) : List Value := q.flatMap Qx.cells
theorem qV_snoc (q : List Qx) (x : Qx) : qV (q ++ [x]) = qV q ++ x.cells := by simp [qV]
theorem qV_len (q : List Qx) : (qV q).length = q.length * 12 := by
  induction q with
  | nil => rfl
  | cons x q ih => show (x.cells ++ qV q).length = _; rw [List.length_append, ih, Qx.cells_len, List.length_cons]; omega
theorem qV_at : ∀ (q : List Qx) (j : Nat) (h : j < q.length) (i : Nat) (_ : i < 12), (qV q)[j * 12 + i]? = q[j].cells[i]?
  | [], j, h, _, _ => by simp at h
  | x :: q, 0, _, i, hi => by
    show (x.cells ++ qV q)[0 * 12 + i]? = x.cells[i]?
    rw [List.getElem?_append_left (by rw [Qx.cells_len]; omega)]
    simp
  | x :: q, j + 1, h, i, hi => by
    show (x.cells ++ qV q)[(j + 1) * 12 + i]? = _
    rw [List.getElem?_append_right (by rw [Qx.cells_len]; omega), Qx.cells_len, show (j + 1) * 12 + i - 12 = j * 12 + i by omega, qV_at q j (by simpa using h) i hi]
    rfl
theorem qEnts {w : World} {B : Nat} {v : Value} {q : List Qx} (h : w.ownsRow B 39 12 v q.length (qV q)) (hl : ∀ x ∈ q, Lists w x.r x.vt x.vp) : IsEnts w v (q.map Qx.ent) := by
  have hE := Elems.ofOwn h
  obtain ⟨a, cap, rfl, h1, h2, hx⟩ := hE
  refine ⟨a, cap, by simp, by simpa using h1, h2, fun j hj => ?_⟩
  have hj' : j < q.length := by simpa using hj
  have he : (q.map Qx.ent)[j] = (q[j].at_, q[j].r) := by simp [Qx.ent]
  have hc : ∀ i u, i < 12 → q[j].cells[i]? = some u → ∃ b off, a = some ⟨b, off, none⟩ ∧ w.cell? ⟨b, off + j * 12 + i, none⟩ = some u := fun i u hi hu => by
    obtain ⟨b, off, e, hcell⟩ := hx (j * 12 + i) u (by rw [qV_at q j hj' i hi]; exact hu)
    exact ⟨b, off, e, by rw [Nat.add_assoc]; exact hcell⟩
  obtain ⟨b, off, rfl, h0⟩ := hc 0 _ (by omega) rfl
  have hc2 : ∀ i u, i < 12 → q[j].cells[i]? = some u → w.cell? ⟨b, off + j * 12 + i, none⟩ = some u := fun i u hi hu => by
    obtain ⟨b', off', e, hcell⟩ := hc i u hi hu
    simp only [Option.some.injEq, Addr.mk.injEq, and_true] at e
    obtain ⟨rfl, rfl⟩ := e
    exact hcell
  refine ⟨b, off, q[j].vt, q[j].vp, rfl, World.block_lt_of_cell? w ⟨b, off + j * 12 + 0, none⟩ h0, ?_, fun i u hu => ?_, ?_⟩
  · rw [he]; exact h0
  · rw [he] at hu
    have hi : i < 11 := by
      have := (Array.getElem?_eq_some_iff.1 hu).1
      rwa [recCells_size] at this
    rw [show off + j * 12 + 1 + i = off + j * 12 + (i + 1) by omega]
    refine hc2 (i + 1) u (by omega) ?_
    rw [← hu, ← Array.getElem?_toList]
    rfl
  · rw [he]; exact hl _ (List.getElem_mem hj')
theorem infoEnt : (Try.prog.info? 39).map (fun i => (i.zero, i.size, i.bytes)) = some (some (.agg #[.int .i64 0, .int .i64 0, .int .i64 0, .int .i64 0, .int .i64 0, .int .i64 0, .int .i64 0, .int .i64 0, .string ⟨#[]⟩, .string ⟨#[]⟩, .slice none 0 0, .slice none 0 0]), 12, 144) := by kernel_rfl

theorem lt12 {P : Nat → Prop} (h : P 0 ∧ P 1 ∧ P 2 ∧ P 3 ∧ P 4 ∧ P 5 ∧ P 6 ∧ P 7 ∧ P 8 ∧ P 9 ∧ P 10 ∧ P 11) : ∀ i, i < 12 → P i := fun i hi => by
  obtain ⟨h0, h1, h2, h3, h4, h5, h6, h7, h8, h9, h10, h11⟩ := h
  match i, hi with
  | 0, _ => exact h0
  | 1, _ => exact h1
  | 2, _ => exact h2
  | 3, _ => exact h3
  | 4, _ => exact h4
  | 5, _ => exact h5
  | 6, _ => exact h6
  | 7, _ => exact h7
  | 8, _ => exact h8
  | 9, _ => exact h9
  | 10, _ => exact h10
  | 11, _ => exact h11
/-- Entries without rows that are laid out one behind the other. -/
theorem ents_laid {w : World} {g : Nat} {V : Array Value} (h : Blk w g 39 V) (l : List En) (hl : l.length ≤ 1000) (hr : ∀ x ∈ l, x.2.txns = [] ∧ x.2.pages = [])
    (hV : ∀ (j : Nat) (hj : j < l.length) (i : Nat), i < 12 → (entCells l[j].1 l[j].2 (.slice none 0 0) (.slice none 0 0))[i]? = V[j * 12 + i]?) : IsEnts w (.slice (some ⟨g, 0, none⟩) l.length l.length) l := by
  refine ⟨some ⟨g, 0, none⟩, l.length, rfl, Nat.le_refl _, by unfold maxLen; omega, fun j hj => ?_⟩
  have hm := hr _ (List.getElem_mem hj)
  refine ⟨g, 0, .slice none 0 0, .slice none 0 0, rfl, h.lt, ?_, fun i u hi => ?_, Lists.nil w _ hm.1 hm.2⟩
  · rw [h.cell, Nat.zero_add]
    exact (hV j hj 0 (by omega)).symm
  · have hi2 : i < 11 := by
      have := (Array.getElem?_eq_some_iff.1 hi).1
      rwa [recCells_size] at this
    rw [h.cell, show 0 + j * 12 + 1 + i = j * 12 + (i + 1) by omega, ← hV j hj (i + 1) (by omega), ← hi]
    rw [← Array.getElem?_toList, ← Array.getElem?_toList]
    rfl
end Go.Proofs.Ytkodnjefdophmaa
