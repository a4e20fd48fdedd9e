/- Records in memory: what a value reads as; what a call may have written. -/
import Derived.Test.YtpcfhpffbogjmaaRec
import Derived.Test.YtpcfhpffbogjmaaOnly
import Derived.Test.YtpcfhpffbogjmaaBytes
import Derived.Test.YtpcfhpffbogjmaaFoot
namespace Go.Proofs.Ytpcfhpffbogjmaa
open Go.RowKit

/-- A slice of n elements whose cells are these (nil and empty ones too). -/
def Elems (w : World) (v : Value) (n : Nat) (xs : List Value) : Prop :=
  ∃ (a : Option Addr) (cap : Nat), v = .slice a n cap ∧ n ≤ cap ∧ cap ≤ maxLen ∧ ∀ j x, xs[j]? = some x → ∃ b off, a = some ⟨b, off, none⟩ ∧ w.cell? ⟨b, off + j, none⟩ = some x
namespace Elems
variable {w w' : World} {v : Value} {n : Nat} {xs : List Value}
theorem nil (w : World) : Elems w (.slice none 0 0) 0 [] := ⟨none, 0, rfl, Nat.le_refl _, Nat.zero_le _, fun j x h => by simp at h⟩
theorem form (h : Elems w v n xs) : ∃ a cap, v = .slice a n cap := let ⟨a, cap, h, _⟩ := h; ⟨a, cap, h⟩
theorem le (h : Elems w v n xs) : n ≤ maxLen := let ⟨_, _, _, h1, h2, _⟩ := h; Nat.le_trans h1 h2
theorem keepS (h : Elems w v n xs) {S : Nat → Prop} (hb : Only S w w') (hS : xs ≠ [] → ∀ b, v.ownBlock = some b → ¬ S b) : Elems w' v n xs := by
  obtain ⟨a, cap, rfl, h1, h2, hx⟩ := h
  refine ⟨a, cap, rfl, h1, h2, fun j x hj => ?_⟩
  obtain ⟨b, off, rfl, h⟩ := hx j x hj
  refine ⟨b, off, rfl, ?_⟩
  have e := hb.block b (World.block_lt_of_cell? w ⟨b, off + j, none⟩ h) (hS (by rintro rfl; simp at hj) b rfl)
  rw [← h]
  unfold World.cell?
  simp only [e]
theorem keep (h : Elems w v n xs) (hb : Below w.heap.size w w') : Elems w' v n xs := h.keepS (S := fun _ => False) (.ofBelow hb) fun _ _ _ => id
theorem cases {n : Nat} (h : Elems w v n xs) (hx : xs ≠ []) : ∃ b off cap, v = .slice (some ⟨b, off, none⟩) n cap ∧ n ≤ cap ∧ cap ≤ maxLen ∧ b < w.heap.size ∧ ∀ j x, xs[j]? = some x → w.cell? ⟨b, off + j, none⟩ = some x := by
  obtain ⟨a, cap, rfl, hc, hm, h⟩ := h
  cases xs with
  | nil => exact absurd rfl hx
  | cons y ys =>
    obtain ⟨b, off, rfl, h0⟩ := h 0 y rfl
    refine ⟨b, off, cap, rfl, hc, hm, World.block_lt_of_cell? w ⟨b, off + 0, none⟩ h0, fun j x hj => ?_⟩
    obtain ⟨b', off', e, h⟩ := h j x hj
    simp only [Option.some.injEq, Addr.mk.injEq, and_true] at e
    obtain ⟨rfl, rfl⟩ := e
    exact h
/-- What one owns reads as its cells. -/
theorem ofOwn {base e size : Nat} (h : w.ownsRow base e size v n xs) : Elems w v n xs := by
  rcases own_any h with ⟨rfl, rfl, rfl⟩ | ⟨g, cap, rfl, h1, h2⟩
  · exact nil w
  · refine ⟨_, cap, rfl, h1, h2, fun j x hj => ⟨g, 0, rfl, ?_⟩⟩
    have := h.cells (g := g) rfl j x hj
    rwa [show ((⟨g, 0, none⟩ : Addr).add j) = ⟨g, 0 + j, none⟩ from by unfold Addr.add; split <;> simp_all] at this
end Elems

def cells3 (x : Row3) : List Value := [.int .i64 x.1, .int .i64 x.2.1, .int .i64 x.2.2]
def cells2 (x : Row2) : List Value := [.int .i64 x.1, .int .i64 x.2]
def rows3 (l : List Row3) : List Value := l.flatMap cells3
def rows2 (l : List Row2) : List Value := l.flatMap cells2
theorem rows3_len (l : List Row3) : (rows3 l).length = l.length * 3 := by
  induction l with
  | nil => rfl
  | cons x l ih => show (cells3 x ++ rows3 l).length = _; simp [cells3, ih]; omega
theorem rows2_len (l : List Row2) : (rows2 l).length = l.length * 2 := by
  induction l with
  | nil => rfl
  | cons x l ih => show (cells2 x ++ rows2 l).length = _; simp [cells2, ih]; omega
theorem rows3_snoc (l : List Row3) (x : Row3) : rows3 (l ++ [x]) = rows3 l ++ cells3 x := by simp [rows3]
theorem rows2_snoc (l : List Row2) (x : Row2) : rows2 (l ++ [x]) = rows2 l ++ cells2 x := by simp [rows2]
theorem rows3_at (l : List Row3) (j : Nat) (h : j < l.length) : (rows3 l)[j * 3]? = some (.int .i64 l[j].1) ∧ (rows3 l)[j * 3 + 1]? = some (.int .i64 l[j].2.1) ∧ (rows3 l)[j * 3 + 2]? = some (.int .i64 l[j].2.2) := by
  induction l generalizing j with
  | nil => simp at h
  | cons x l ih =>
    have e : rows3 (x :: l) = .int .i64 x.1 :: .int .i64 x.2.1 :: .int .i64 x.2.2 :: rows3 l := rfl
    cases j with
    | zero => simp [e]
    | succ j =>
      have := ih j (by simpa using h)
      rw [e, show (j + 1) * 3 = j * 3 + 1 + 1 + 1 by omega]
      exact this
theorem rows2_at (l : List Row2) (j : Nat) (h : j < l.length) : (rows2 l)[j * 2]? = some (.int .i64 l[j].1) ∧ (rows2 l)[j * 2 + 1]? = some (.int .i64 l[j].2) := by
  induction l generalizing j with
  | nil => simp at h
  | cons x l ih =>
    have e : rows2 (x :: l) = .int .i64 x.1 :: .int .i64 x.2 :: rows2 l := rfl
    cases j with
    | zero => simp [e]
    | succ j =>
      have := ih j (by simpa using h)
      rw [e, show (j + 1) * 2 = j * 2 + 1 + 1 by omega]
      exact this
theorem Elems.at3 {w : World} {v : Value} {l : List Row3} (h : Elems w v l.length (rows3 l)) (hl : l ≠ []) : ∃ b off cap, v = .slice (some ⟨b, off, none⟩) l.length cap ∧ l.length ≤ cap ∧ cap ≤ maxLen ∧ b < w.heap.size ∧
    ∀ j (hj : j < l.length), w.cell? ⟨b, off + j * 3, none⟩ = some (.int .i64 l[j].1) ∧ w.cell? ⟨b, off + j * 3 + 1, none⟩ = some (.int .i64 l[j].2.1) ∧ w.cell? ⟨b, off + j * 3 + 2, none⟩ = some (.int .i64 l[j].2.2) := by
  obtain ⟨b, off, cap, e, h1, h2, h3, h4⟩ := h.cases (by cases l with | nil => exact absurd rfl hl | cons x l => exact fun e => by cases e)
  refine ⟨b, off, cap, e, h1, h2, h3, fun j hj => ?_⟩
  obtain ⟨e0, e1, e2⟩ := rows3_at l j hj
  exact ⟨h4 _ _ e0, h4 _ _ e1, h4 _ _ e2⟩
theorem Elems.at2 {w : World} {v : Value} {l : List Row2} (h : Elems w v l.length (rows2 l)) (hl : l ≠ []) : ∃ b off cap, v = .slice (some ⟨b, off, none⟩) l.length cap ∧ l.length ≤ cap ∧ cap ≤ maxLen ∧ b < w.heap.size ∧
    ∀ j (hj : j < l.length), w.cell? ⟨b, off + j * 2, none⟩ = some (.int .i64 l[j].1) ∧ w.cell? ⟨b, off + j * 2 + 1, none⟩ = some (.int .i64 l[j].2) := by
  obtain ⟨b, off, cap, e, h1, h2, h3, h4⟩ := h.cases (by cases l with | nil => exact absurd rfl hl | cons x l => exact fun e => by cases e)
  refine ⟨b, off, cap, e, h1, h2, h3, fun j hj => ?_⟩
  obtain ⟨e0, e1⟩ := rows2_at l j hj
  exact ⟨h4 _ _ e0, h4 _ _ e1⟩

/-- A record's cells, its two slices beside it. -/
def recCells (r : Rc) (vt vp : Value) : Array Value :=
  #[.int .i64 r.kind, .int .i64 r.txn, .int .i64 r.page, .int .i64 r.off, .int .i64 r.prev, .int .i64 r.next, .int .i64 r.beg, .string r.before, .string r.after, vt, vp]
def recV (r : Rc) (vt vp : Value) : Value := .agg (recCells r vt vp)
/-- The two slices read as the record's rows. -/
structure Lists (w : World) (r : Rc) (vt vp : Value) : Prop where
  t : Elems w vt r.txns.length (rows3 r.txns)
  p : Elems w vp r.pages.length (rows2 r.pages)
theorem own_only {S : Nat → Prop} {w w' : World} {base size n : Nat} {e : TypeId} {v : Value} {xs : List Value} (h : w.ownsRow base e size v n xs) (hb : Only S w w') (hS : ∀ b, v.ownBlock = some b → ¬ S b) : w'.ownsRow base e size v n xs :=
  own_keep h fun b hv => hb.block b (h.lt b hv).2 (hS b hv)
theorem Lists.keep {w w' : World} {r : Rc} {vt vp : Value} (h : Lists w r vt vp) (hb : Below w.heap.size w w') : Lists w' r vt vp := ⟨h.t.keep hb, h.p.keep hb⟩
theorem Lists.keepS {S : Nat → Prop} {w w' : World} {r : Rc} {vt vp : Value} (h : Lists w r vt vp) (hb : Only S w w') (ht : ∀ b, vt.ownBlock = some b → ¬ S b) (hp : ∀ b, vp.ownBlock = some b → ¬ S b) : Lists w' r vt vp :=
  ⟨h.t.keepS hb fun _ => ht, h.p.keepS hb fun _ => hp⟩
theorem Lists.nil (w : World) (r : Rc) (ht : r.txns = []) (hp : r.pages = []) : Lists w r (.slice none 0 0) (.slice none 0 0) := ⟨by rw [ht]; exact Elems.nil w, by rw [hp]; exact Elems.nil w⟩
theorem Lists.one {w : World} {r : Rc} {vt vp : Value} (h : Lists w r vt vp) : (recCells r vt vp).all (·.oneCell') = true := by
  obtain ⟨a, c, e⟩ := h.t.form
  obtain ⟨a', c', e'⟩ := h.p.form
  subst e e'
  simp [recCells, Value.oneCell']
theorem recCells_size (r : Rc) (vt vp : Value) : (recCells r vt vp).size = 11 := rfl
/-- The block that a slice lies in is new. -/
def New (w : World) (v : Value) : Prop := ∀ b, v.ownBlock = some b → w.heap.size ≤ b
theorem New.nil (w : World) : New w (.slice none 0 0) := fun b h => by cases h
theorem New.mono {w w' : World} {v : Value} (h : New w' v) (hs : w.heap.size ≤ w'.heap.size) : New w v := fun b hb => Nat.le_trans hs (h b hb)
theorem New.own {w w' : World} {base size n : Nat} {e : TypeId} {v : Value} {xs : List Value} (h : w'.ownsRow base e size v n xs) (hb : w.heap.size ≤ base) : New w v := fun b hv => Nat.le_trans hb (h.lt b hv).1
/-- A value that reads as a record. -/
def IsRec (w : World) (v : Value) (r : Rc) : Prop := ∃ vt vp, v = recV r vt vp ∧ Lists w r vt vp
theorem IsRec.keep {w w' : World} {v : Value} {r : Rc} (h : IsRec w v r) (hb : Below w.heap.size w w') : IsRec w' v r := let ⟨vt, vp, e, l⟩ := h; ⟨vt, vp, e, l.keep hb⟩
theorem IsRec.nil (w : World) : IsRec w (recV .nil (.slice none 0 0) (.slice none 0 0)) .nil := ⟨_, _, rfl, Elems.nil w, Elems.nil w⟩
end Go.Proofs.Ytpcfhpffbogjmaa
