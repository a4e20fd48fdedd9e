/- careenref10: a table in memory; find; Log, Add. -/
import Derived.Test.YtfbghdkbimnnbaaTbB
import Derived.Test.YtfbghdkbimnnbaaApp
namespace Go.Proofs.Ytfbghdkbimnnbaa
open Go.RowKit

/-- The document's transactions as cells. -/
def txV (V : Int → Value) (l : Tb) : List Value := l.flatMap fun x => (stCells x (V x.txn)).toList
theorem txV_len (V : Int → Value) : ∀ l : Tb, (txV V l).length = l.length * 5
  | [] => rfl
  | x :: l => by
    have := txV_len V l
    unfold txV at this ⊢
    rw [List.flatMap_cons, List.length_append, this, List.length_cons]
    show 5 + _ = _
    omega
theorem txV_append (V : Int → Value) (l r : Tb) : txV V (l ++ r) = txV V l ++ txV V r := by unfold txV; rw [List.flatMap_append]
theorem txV_congr {V V' : Int → Value} {l : Tb} (h : ∀ x ∈ l, V x.txn = V' x.txn) : txV V l = txV V' l := by
  induction l with
  | nil => rfl
  | cons x l ih =>
    show (stCells x (V x.txn)).toList ++ txV V l = (stCells x (V' x.txn)).toList ++ txV V' l
    rw [h x (.head _), ih fun y hy => h y (.tail _ hy)]
theorem txV_at (V : Int → Value) : ∀ (l : Tb) (j c : Nat) (x : Tx), l[j]? = some x → c < 5 → (txV V l)[j * 5 + c]? = (stCells x (V x.txn))[c]?
  | [], j, c, x, h, _ => by simp at h
  | y :: l, 0, c, x, h, hc => by
    simp at h; subst h
    show ((stCells y (V y.txn)).toList ++ txV V l)[0 * 5 + c]? = _
    rw [Nat.zero_mul, Nat.zero_add, List.getElem?_append_left (by simp [stCells]; omega), Array.getElem?_toList]
  | y :: l, j + 1, c, x, h, hc => by
    show ((stCells y (V y.txn)).toList ++ txV V l)[(j + 1) * 5 + c]? = _
    have hl : (stCells y (V y.txn)).toList.length = 5 := rfl
    rw [List.getElem?_append_right (by omega), hl, show (j + 1) * 5 + c - 5 = j * 5 + c from by omega]
    exact txV_at V l j c x (by simpa using h) hc
theorem idx_some {l : Tb} {t : Int} {x : Tx} (h : l.at_ t = some x) : ∃ i : Nat, l[i]? = some x ∧ x.txn = t ∧ ∀ (j : Nat) (y : Tx), j < i → l[j]? = some y → y.txn ≠ t := by
  induction l with
  | nil => simp [Tb.at_] at h
  | cons y l ih =>
    rw [Tb.at_cons] at h
    by_cases hy : y.txn = t
    · rw [if_pos hy] at h
      cases h
      exact ⟨0, rfl, hy, fun j z hj => by omega⟩
    · rw [if_neg hy] at h
      obtain ⟨i, h1, h2, h3⟩ := ih h
      refine ⟨i + 1, by simpa using h1, h2, fun j z hj hz => ?_⟩
      cases j with
      | zero => simp at hz; subst hz; exact hy
      | succ j => exact h3 j z (by omega) (by simpa using hz)
/-- The document's table at block g, with the footprint G. -/
structure DtRaw (w : World) (G : Foot) (g : Nat) (v : Value) (V : Int → Value) (l : Tb) : Prop where
  head : Blk w g 29 #[v]
  row : w.ownsRow 0 69 5 v l.length (txV V l)
  mks : ∀ x ∈ l, w.ownsRow 0 75 2 (V x.txn) x.marks.length (mkV x.marks)
  apartV : ∀ x ∈ l, ∀ y ∈ l, ∀ b, (V x.txn).ownBlock = some b → (V y.txn).ownBlock = some b → x.txn = y.txn
  fg : G g
  fr : ∀ b, v.ownBlock = some b → G b
  fv : ∀ x ∈ l, ∀ b, (V x.txn).ownBlock = some b → G b
  lt : ∀ b, G b → b < w.heap.size
def IsDt (w : World) (G : Foot) (g : Nat) (l : Tb) : Prop := l.Ok ∧ ∃ v V, DtRaw w G g v V l
namespace DtRaw
variable {w w' : World} {G F2 F2' : Foot} {g : Nat} {v : Value} {V : Int → Value} {l : Tb}
theorem keep (h : DtRaw w G g v V l) (hk : ∀ b, G b → w'.heap[b]? = w.heap[b]?) (hs : w.heap.size ≤ w'.heap.size) : DtRaw w' G g v V l :=
  ⟨(hk g h.fg).trans h.head, own_keep h.row fun b hb => hk b (h.fr b hb), fun x hx => own_keep (h.mks x hx) fun b hb => hk b (h.fv x hx b hb), h.apartV, h.fg, h.fr, h.fv, fun b hb => Nat.lt_of_lt_of_le (h.lt b hb) hs⟩
theorem below (h : DtRaw w G g v V l) (hb : Below w.heap.size w w') : DtRaw w' G g v V l := h.keep (fun b hF => hb.block b (h.lt b hF)) hb.size
/-- What is loaded: the slice; its rows. -/
theorem look (h : DtRaw w G g v V l) : ∃ a cap, v = .slice a l.length cap ∧ w.cell? ⟨g, 0, none⟩ = some (.slice a l.length cap) ∧ l.length ≤ cap ∧ cap ≤ maxLen ∧
    ∀ k x, l[k]? = some x → ∃ b, a = some ⟨b, 0, none⟩ ∧ b < w.heap.size ∧ v.ownBlock = some b ∧ ∀ c, c < 5 → w.cell? ⟨b, k * 5 + c, none⟩ = (stCells x (V x.txn))[c]? := by
  rcases own_any h.row with ⟨hv, h0, _⟩ | ⟨b, cap, hv, hc, hm⟩
  · refine ⟨none, 0, by rw [hv, h0], ?_, by omega, by decide, fun k x hk => ?_⟩
    · have := h.head.cell 0
      rw [hv] at this
      rw [h0]; exact this
    · have := (List.getElem?_eq_some_iff.1 hk).1
      omega
  · have hr := h.row
    rw [hv] at hr
    refine ⟨_, cap, hv, ?_, hc, hm, fun k x hk => ⟨b, rfl, (hr.lt b rfl).2, by rw [hv]; rfl, fun c hcl => ?_⟩⟩
    · have := h.head.cell 0
      rw [hv] at this
      exact this
    · have hkl := (List.getElem?_eq_some_iff.1 hk).1
      rw [hr.cellAt (k * 5 + c) (by omega)]
      exact txV_at V l k c x hk hcl
end DtRaw
namespace IsDt
variable {w w' : World} {G F2 F2' : Foot} {g : Nat} {l : Tb}
theorem keep (h : IsDt w G g l) (hk : ∀ b, G b → w'.heap[b]? = w.heap[b]?) (hs : w.heap.size ≤ w'.heap.size) : IsDt w' G g l := by
  obtain ⟨ho, v, V, r⟩ := h
  exact ⟨ho, v, V, r.keep hk hs⟩
theorem below (h : IsDt w G g l) (hb : Below w.heap.size w w') : IsDt w' G g l := by
  obtain ⟨ho, v, V, r⟩ := h
  exact ⟨ho, v, V, r.below hb⟩
theorem lt (h : IsDt w G g l) : ∀ b, G b → b < w.heap.size := by obtain ⟨_, _, _, r⟩ := h; exact r.lt
theorem apart (h : IsDt w G g l) (hs : Step F2 F2' w w') (ha : ∀ b, G b → ¬ F2 b) : IsDt w' G g l ∧ ∀ b, G b → ¬ F2' b :=
  ⟨h.keep (fun b hb => hs.block b (h.lt b hb) (ha b hb)) hs.size, fun b hb g => (hs.foot b g).elim (ha b hb) (fun k => by have := h.lt b hb; omega)⟩
end IsDt
/-- What a call leaves: the document's table, and what it wrote. -/
def OutD (w : World) (G : Foot) (g : Nat) (l : Tb) (v : Value) (e : Ending) (w' : World) : Prop := ∃ G', e = .returned v ∧ IsDt w' G' g l ∧ Step G G' w w'
theorem OutD.same {w : World} {G : Foot} {g : Nat} {l : Tb} (h : IsDt w G g l) (v : Value) : OutD w G g l v (.returned v) w := ⟨G, rfl, h, .refl _ _⟩
section
variable {w : World} {G : Foot} {g : Nat} {v : Value} {V : Int → Value} {l : Tb}
set_option maxRecDepth 100000 in
set_option maxHeartbeats 8000000 in
/-- find, as far as a place at which all ahead are others. -/
theorem dtFind_some (r : DtRaw w G g v V l) (hf : l.length ≤ 4) (t : Int) (i : Nat) (x : Tx) (hi : l[i]? = some x) (hx : x.txn = t) (hn : ∀ (j : Nat) (y : Tx), j < i → l[j]? = some y → y.txn ≠ t) :
    Calls Try.prog 29 #[.pointer (some ⟨g, 0, none⟩), .int .i64 t] w fun e w' => e = .returned (.int .i64 i) ∧ Below w.heap.size w w' := by
  obtain ⟨a, cap, hv, c0, hcap, hcm, hrow⟩ := r.look
  have HROW := Lib.hid hrow
  have HN := Lib.hid hn
  have HI := Lib.hid hi
  have HIL := (List.getElem?_eq_some_iff.1 hi).1
  have hg := r.head.lt
  have hl4 : (l.length : Int) ≤ 4 := by omega
  subst hx
  clear r hrow hn hi hcm hv
  go_enter Try.func29, Try.ntmps29
  go_wp2
  go_loopw [5] (fun j wr => ∃ k : Nat, k ≤ i ∧ j = .int .i64 k ∧ Below w.heap.size w wr) (fun j _ => (i - intOf j).toNat)
  case atStart => exact ⟨0, Nat.zero_le _, rfl, Below.refl _ _⟩
  case round =>
    obtain ⟨k, hk, rfl, hB⟩ := hrel
    have cg := (hB.cell (p := ⟨g, 0, none⟩) hg).trans c0
    have hkl : k < l.length := by omega
    have hkli : (k : Int) < l.length := by omega
    obtain ⟨b, rfl, hb, _, hc⟩ := HROW.out k l[k] (List.getElem?_eq_getElem hkl)
    have d0 := (hB.cell (p := ⟨b, k * 5 + 0, none⟩) hb).trans (hc 0 (by omega))
    simp [stCells] at d0
    have HB := Lib.hid hB
    by_cases hki : k < i
    · have hne : (l[k].txn == x.txn) = false := by simpa using HN.out k _ hki (List.getElem?_eq_getElem hkl)
      have HKI := Lib.hid hki
      clear hc hB
      generalize l[k].txn = y at *
      go_wp2
      exact ⟨⟨k + 1, HKI.out, by go_num, HB.out⟩, by simp [intOf]; have := HKI.out; omega⟩
    · obtain rfl : k = i := by omega
      have hxe : l[k] = x := by
        have := HI.out
        rw [List.getElem?_eq_getElem hkl] at this
        exact Option.some.inj this
      rw [hxe] at d0
      clear hc hB hxe
      go_wp2
      go_ret
      exact ⟨rfl, HB.out⟩
set_option maxRecDepth 100000 in
set_option maxHeartbeats 8000000 in
theorem dtFind_none (r : DtRaw w G g v V l) (hf : l.length ≤ 4) (t : Int) (hn : ∀ x ∈ l, x.txn ≠ t) :
    Calls Try.prog 29 #[.pointer (some ⟨g, 0, none⟩), .int .i64 t] w fun e w' => e = .returned (.int .i64 (-1)) ∧ Below w.heap.size w w' := by
  obtain ⟨a, cap, hv, c0, hcap, hcm, hrow⟩ := r.look
  have HROW := Lib.hid hrow
  have HN := Lib.hid hn
  have hg := r.head.lt
  have hl4 : (l.length : Int) ≤ 4 := by omega
  clear r hrow hn hcm hv
  go_enter Try.func29, Try.ntmps29
  go_wp2
  go_loopw [5] (fun j wr => ∃ k : Nat, k ≤ l.length ∧ j = .int .i64 k ∧ Below w.heap.size w wr) (fun j _ => (l.length - intOf j).toNat)
  case atStart => exact ⟨0, Nat.zero_le _, rfl, Below.refl _ _⟩
  case round =>
    obtain ⟨k, hk, rfl, hB⟩ := hrel
    have cg := (hB.cell (p := ⟨g, 0, none⟩) hg).trans c0
    have HB := Lib.hid hB
    by_cases hkl : k < l.length
    · have hkli : (k : Int) < l.length := by omega
      obtain ⟨b, rfl, hb, _, hc⟩ := HROW.out k l[k] (List.getElem?_eq_getElem hkl)
      have d0 := (hB.cell (p := ⟨b, k * 5 + 0, none⟩) hb).trans (hc 0 (by omega))
      simp [stCells] at d0
      have hne : (l[k].txn == t) = false := by simpa using HN.out _ (List.getElem_mem hkl)
      have HKI := Lib.hid hkl
      clear hc hB
      generalize l[k].txn = y at *
      go_wp2
      exact ⟨⟨k + 1, HKI.out, by go_num, HB.out⟩, by simp [intOf]; have := HKI.out; omega⟩
    · obtain rfl : k = l.length := by omega
      clear hB
      go_wp2
      go_ret
      exact ⟨rfl, HB.out⟩
end
end Go.Proofs.Ytfbghdkbimnnbaa
