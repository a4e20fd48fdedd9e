/- A table of transactions as plain data: those that are there, by their numbers, rising; what the calls make of it; nothing of the program is imported. -/
import Derived.Test.YtfbghdkbimnnbaaBase
namespace Go.Proofs.Ytfbghdkbimnnbaa

structure Tx where
  txn : Int
  first : Int
  last : Int
  left : Int
  marks : List (Int × Int)
abbrev Tb := List Tx
namespace Tb
def at_ (l : Tb) (t : Int) : Option Tx := l.find? fun x => decide (x.txn = t)
def set (l : Tb) (x : Tx) : Tb := l.map fun y => if y.txn = x.txn then x else y
def ins (x : Tx) : Tb → Tb
  | [] => [x]
  | y :: l => if y.txn < x.txn then y :: ins x l else x :: y :: l
def del (l : Tb) (t : Int) : Tb := l.filter fun x => decide (x.txn ≠ t)
structure Ok (l : Tb) : Prop where
  rise : l.Pairwise fun a b => a.txn < b.txn
  few : l.length ≤ 4
  txn : ∀ x ∈ l, 1 ≤ x.txn ∧ x.txn ≤ 2147483647
  left : ∀ x ∈ l, 0 ≤ x.left ∧ x.left ≤ 1048576
  marks : ∀ x ∈ l, x.marks.length ≤ 4
  order : ∀ x ∈ l, 0 ≤ x.first ∧ x.first ≤ x.last ∧ (x.first = 0 → x.last = 0)
/-- The calls: what they answer, what is there behind them. -/
def beginT (l : Tb) (t : Int) : Tb × Nat :=
  if t < 1 ∨ 2147483647 < t then (l, 1) else if (l.at_ t).isSome then (l, 9) else if 4 ≤ l.length then (l, 5) else (ins ⟨t, 0, 0, 0, []⟩ l, 0)
def logT (l : Tb) (t a : Int) : Tb × Nat := match l.at_ t with
  | none => (l, 7)
  | some x => if a ≤ x.last then (l, 1) else (l.set { x with last := a, first := if x.first = 0 then a else x.first }, 0)
def leftT (l : Tb) (t d : Int) : Tb × Nat := match l.at_ t with
  | none => (l, 7)
  | some x => if d < -1048576 ∨ 1048576 < d ∨ x.left + d < 0 ∨ 1048576 < x.left + d then (l, 1) else (l.set { x with left := x.left + d }, 0)
def markT (l : Tb) (t k : Int) : Tb × Nat × Nat := match l.at_ t with
  | none => (l, 0, 7)
  | some x => if k ≠ x.left then (l, 0, 1) else if 4 ≤ x.marks.length then (l, 0, 5) else (l.set { x with marks := x.marks ++ [(x.last, k)] }, x.marks.length, 0)
def backT (l : Tb) (t n : Int) : Tb × (Int × Int) × Nat := match l.at_ t with
  | none => (l, (0, 0), 7)
  | some x => if n < 0 ∨ x.marks.length ≤ n then (l, (0, 0), 7) else (l.set { x with marks := x.marks.take (n.toNat + 1) }, x.marks.getD n.toNat (0, 0), 0)
def endT (l : Tb) (t : Int) : Tb × Nat := if (l.at_ t).isSome then (l.del t, 0) else (l, 7)
def rows (l : Tb) : List (Int × Int × Int) := (l.filter fun x => decide (0 < x.last)).map fun x => (x.txn, x.first, x.last)
def need (l : Tb) : Int := (l.map fun x => 1 + x.left).foldr (· + ·) 0

theorem at_some {l : Tb} {t : Int} {x : Tx} (h : l.at_ t = some x) : x ∈ l ∧ x.txn = t := by
  unfold at_ at h
  exact ⟨List.mem_of_find?_eq_some h, by have := List.find?_some h; simpa using this⟩
theorem at_none {l : Tb} {t : Int} (h : l.at_ t = none) : ∀ x ∈ l, x.txn ≠ t := by
  unfold at_ at h
  intro x hx
  have := List.find?_eq_none.1 h x hx
  simpa using this
theorem at_mem {l : Tb} (h : l.Pairwise fun a b => a.txn < b.txn) {x : Tx} (hx : x ∈ l) : l.at_ x.txn = some x := by
  induction l with
  | nil => cases hx
  | cons y l ih =>
    obtain ⟨h1, h2⟩ := List.pairwise_cons.1 h
    unfold at_
    rw [List.find?_cons]
    rcases List.mem_cons.1 hx with rfl | hx
    · simp
    · have := h1 x hx
      have e : decide (y.txn = x.txn) = false := decide_eq_false (by omega)
      rw [e]
      exact ih h2 hx
theorem at_set {l : Tb} (x : Tx) (t : Int) : (l.set x).at_ t = if t = x.txn then (l.at_ t).map (fun _ => x) else l.at_ t := by
  unfold at_ set
  induction l with
  | nil => simp
  | cons y l ih =>
    rw [List.map_cons, List.find?_cons, List.find?_cons]
    by_cases hy : y.txn = x.txn
    · rw [if_pos hy]
      by_cases ht : t = x.txn
      · subst ht
        simp [hy]
      · have e1 : decide (x.txn = t) = false := decide_eq_false (by omega)
        have e2 : decide (y.txn = t) = false := decide_eq_false (by omega)
        rw [e1, e2]
        exact ih
    · rw [if_neg hy]
      by_cases ht : y.txn = t
      · have e1 : decide (y.txn = t) = true := decide_eq_true ht
        rw [e1, if_neg (by omega)]
      · have e1 : decide (y.txn = t) = false := decide_eq_false ht
        rw [e1]
        exact ih
theorem set_txns {l : Tb} (x : Tx) : (l.set x).map (·.txn) = l.map (·.txn) := by
  unfold set
  rw [List.map_map]
  refine List.map_congr_left fun y _ => ?_
  show (if y.txn = x.txn then x else y).txn = y.txn
  by_cases h : y.txn = x.txn
  · rw [if_pos h, h]
  · rw [if_neg h]
theorem mem_ins {x : Tx} : ∀ {l : Tb} {y : Tx}, y ∈ ins x l ↔ y = x ∨ y ∈ l
  | [], y => by simp [ins]
  | z :: l, y => by
    unfold ins
    by_cases h : z.txn < x.txn
    · rw [if_pos h, List.mem_cons, mem_ins, List.mem_cons]
      constructor
      · rintro (h | h | h) <;> simp [h]
      · rintro (h | h | h) <;> simp [h]
    · rw [if_neg h]; simp
theorem rise_ins {x : Tx} : ∀ {l : Tb}, l.Pairwise (fun a b => a.txn < b.txn) → (∀ y ∈ l, y.txn ≠ x.txn) → (ins x l).Pairwise fun a b => a.txn < b.txn
  | [], _, _ => List.pairwise_singleton _ _
  | z :: l, h, hn => by
    obtain ⟨h1, h2⟩ := List.pairwise_cons.1 h
    unfold ins
    by_cases hz : z.txn < x.txn
    · rw [if_pos hz]
      refine List.pairwise_cons.2 ⟨fun y hy => ?_, rise_ins h2 fun y hy => hn y (.tail _ hy)⟩
      rcases mem_ins.1 hy with rfl | hy
      · exact hz
      · exact h1 y hy
    · rw [if_neg hz]
      have hxz : x.txn < z.txn := by have := hn z (.head _); omega
      refine List.pairwise_cons.2 ⟨fun y hy => ?_, h⟩
      rcases List.mem_cons.1 hy with rfl | hy
      · exact hxz
      · have := h1 y hy; omega
theorem len_ins (x : Tx) : ∀ l : Tb, (ins x l).length = l.length + 1
  | [] => rfl
  | z :: l => by
    unfold ins
    by_cases hz : z.txn < x.txn
    · rw [if_pos hz, List.length_cons, len_ins x l, List.length_cons]
    · rw [if_neg hz]; rfl
theorem at_ins {x : Tx} (t : Int) : ∀ {l : Tb}, l.at_ x.txn = none → (ins x l).at_ t = if t = x.txn then some x else l.at_ t
  | [], _ => by
    unfold ins at_
    by_cases h : t = x.txn
    · rw [if_pos h]; simp [h]
    · rw [if_neg h]; simp; omega
  | z :: l, hn => by
    have hz : z.txn ≠ x.txn := at_none hn z (.head _)
    have hn2 : at_ l x.txn = none := by
      unfold at_ at hn ⊢
      rw [List.find?_cons, decide_eq_false hz] at hn
      exact hn
    unfold ins
    by_cases h : z.txn < x.txn
    · rw [if_pos h]
      have ih := at_ins (x := x) t hn2
      unfold at_ at ih ⊢
      rw [List.find?_cons, List.find?_cons, ih]
      by_cases ht : z.txn = t
      · rw [decide_eq_true ht]
        have : t ≠ x.txn := by omega
        simp [this]
      · rw [decide_eq_false ht]
    · rw [if_neg h]
      unfold at_
      rw [List.find?_cons]
      by_cases ht : t = x.txn
      · rw [if_pos ht, decide_eq_true ht.symm]
      · rw [if_neg ht, decide_eq_false (fun e => ht e.symm)]
theorem at_del {l : Tb} (t u : Int) : (l.del t).at_ u = if u = t then none else l.at_ u := by
  unfold at_ del
  induction l with
  | nil => simp
  | cons y l ih =>
    by_cases hy : y.txn = t
    · have e1 : decide (y.txn ≠ t) = false := decide_eq_false fun h => h hy
      rw [List.filter_cons_of_neg (by rw [e1]; simp), ih, List.find?_cons]
      by_cases hu : u = t
      · rw [if_pos hu, if_pos hu]
      · rw [if_neg hu, if_neg hu, decide_eq_false (by omega)]
    · have e1 : decide (y.txn ≠ t) = true := decide_eq_true hy
      rw [List.filter_cons_of_pos (by simpa using e1), List.find?_cons, ih, List.find?_cons]
      by_cases hu : y.txn = u
      · have : u ≠ t := by omega
        simp [hu, this]
      · rw [decide_eq_false hu]
theorem mem_set {l : Tb} {x y : Tx} (h : y ∈ l.set x) : y = x ∨ (y ∈ l ∧ y.txn ≠ x.txn) := by
  unfold set at h
  obtain ⟨z, hz, rfl⟩ := List.mem_map.1 h
  by_cases e : z.txn = x.txn
  · rw [if_pos e]; exact .inl rfl
  · rw [if_neg e]; exact .inr ⟨hz, e⟩
theorem rise_set {l : Tb} (h : l.Pairwise fun a b => a.txn < b.txn) (x : Tx) : (l.set x).Pairwise fun a b => a.txn < b.txn := by
  have h1 : (l.map (·.txn)).Pairwise (· < ·) := List.pairwise_map.2 h
  rw [← set_txns x] at h1
  exact List.pairwise_map.1 h1
theorem Ok.set {l : Tb} (h : l.Ok) {x : Tx} (h1 : 1 ≤ x.txn ∧ x.txn ≤ 2147483647) (h2 : 0 ≤ x.left ∧ x.left ≤ 1048576) (h3 : x.marks.length ≤ 4) (h4 : 0 ≤ x.first ∧ x.first ≤ x.last ∧ (x.first = 0 → x.last = 0)) : (l.set x).Ok := by
  refine ⟨rise_set h.rise x, by unfold Tb.set; rw [List.length_map]; exact h.few, fun y hy => ?_, fun y hy => ?_, fun y hy => ?_, fun y hy => ?_⟩ <;> rcases mem_set hy with rfl | ⟨hy, _⟩
  · exact h1
  · exact h.txn y hy
  · exact h2
  · exact h.left y hy
  · exact h3
  · exact h.marks y hy
  · exact h4
  · exact h.order y hy
theorem Ok.none : Ok [] := ⟨List.Pairwise.nil, by simp, by simp, by simp, by simp, by simp⟩
theorem Ok.begin {l : Tb} (h : l.Ok) (t : Int) : (l.beginT t).1.Ok := by
  unfold beginT
  by_cases h1 : t < 1 ∨ 2147483647 < t
  · rw [if_pos h1]; exact h
  · rw [if_neg h1]
    cases ha : l.at_ t with
    | some x => simp; exact h
    | none =>
      by_cases h4 : 4 ≤ l.length
      · simp [h4]; exact h
      · simp [h4]
        refine ⟨rise_ins h.rise (at_none ha), by rw [len_ins]; omega, fun y hy => ?_, fun y hy => ?_, fun y hy => ?_, fun y hy => ?_⟩ <;> rcases mem_ins.1 hy with rfl | hy
        · show 1 ≤ t ∧ t ≤ 2147483647; omega
        · exact h.txn y hy
        · show (0 : Int) ≤ 0 ∧ (0 : Int) ≤ 1048576; omega
        · exact h.left y hy
        · exact Nat.zero_le _
        · exact h.marks y hy
        · show (0 : Int) ≤ 0 ∧ (0 : Int) ≤ 0 ∧ ((0 : Int) = 0 → (0 : Int) = 0); omega
        · exact h.order y hy
theorem Ok.log {l : Tb} (h : l.Ok) (t a : Int) : (l.logT t a).1.Ok := by
  unfold logT
  cases ha : l.at_ t with
  | none => exact h
  | some x =>
    have hx := (at_some ha).1
    by_cases h1 : a ≤ x.last
    · simp [h1]; exact h
    · simp only [if_neg h1]
      have := h.order x hx
      refine h.set (h.txn x hx) (h.left x hx) (h.marks x hx) ?_
      by_cases hf : x.first = 0
      · simp only [if_pos hf]; omega
      · simp only [if_neg hf]; omega
theorem Ok.leftT {l : Tb} (h : l.Ok) (t d : Int) : (l.leftT t d).1.Ok := by
  unfold Tb.leftT
  cases ha : l.at_ t with
  | none => exact h
  | some x =>
    have hx := (at_some ha).1
    by_cases h1 : d < -1048576 ∨ 1048576 < d ∨ x.left + d < 0 ∨ 1048576 < x.left + d
    · simp only [if_pos h1]; exact h
    · simp only [if_neg h1]
      exact h.set (h.txn x hx) (by show 0 ≤ x.left + d ∧ x.left + d ≤ 1048576; omega) (h.marks x hx) (h.order x hx)
theorem Ok.mark {l : Tb} (h : l.Ok) (t k : Int) : (l.markT t k).1.Ok := by
  unfold markT
  cases ha : l.at_ t with
  | none => exact h
  | some x =>
    have hx := (at_some ha).1
    by_cases h1 : k ≠ x.left
    · simp only [if_pos h1]; exact h
    · by_cases h2 : 4 ≤ x.marks.length
      · simp only [if_neg h1, if_pos h2]; exact h
      · simp only [if_neg h1, if_neg h2]
        exact h.set (h.txn x hx) (h.left x hx) (by show (x.marks ++ [(x.last, k)]).length ≤ 4; simp; omega) (h.order x hx)
theorem Ok.back {l : Tb} (h : l.Ok) (t n : Int) : (l.backT t n).1.Ok := by
  unfold backT
  cases ha : l.at_ t with
  | none => exact h
  | some x =>
    have hx := (at_some ha).1
    by_cases h1 : n < 0 ∨ x.marks.length ≤ n
    · simp only [if_pos h1]; exact h
    · simp only [if_neg h1]
      exact h.set (h.txn x hx) (h.left x hx) (Nat.le_trans (List.length_take_le' _ _) (h.marks x hx)) (h.order x hx)
theorem Ok.end_ {l : Tb} (h : l.Ok) (t : Int) : (l.endT t).1.Ok := by
  unfold endT
  cases ha : l.at_ t with
  | none => simp; exact h
  | some x =>
    simp
    have hs : ∀ y ∈ l.del t, y ∈ l := fun y hy => (List.mem_filter.1 hy).1
    exact ⟨h.rise.sublist List.filter_sublist, Nat.le_trans (List.length_filter_le _ _) h.few, fun y hy => h.txn y (hs y hy), fun y hy => h.left y (hs y hy), fun y hy => h.marks y (hs y hy), fun y hy => h.order y (hs y hy)⟩
/-- What those with numbers below n need. -/
def needTo (l : Tb) : Nat → Int
  | 0 => 0
  | n + 1 => needTo l n + match l.at_ n with
    | some x => 1 + x.left
    | none => 0
theorem at_cons (y : Tx) (l : Tb) (t : Int) : at_ (y :: l) t = if y.txn = t then some y else at_ l t := by
  unfold at_
  rw [List.find?_cons]
  by_cases h : y.txn = t
  · rw [decide_eq_true h, if_pos h]
  · rw [decide_eq_false h, if_neg h]
theorem needTo_cons (y : Tx) (l : Tb) (hy : 0 ≤ y.txn) (hn : at_ l y.txn = none) : ∀ n : Nat, needTo (y :: l) n = needTo l n + if y.txn < n then 1 + y.left else 0
  | 0 => by
    rw [if_neg (by omega)]
    rfl
  | n + 1 => by
    have ih := needTo_cons y l hy hn n
    show needTo (y :: l) n + _ = needTo l n + _ + _
    rw [ih, at_cons]
    by_cases h : y.txn = n
    · rw [if_pos h, if_neg (by omega), if_pos (by omega), ← h, hn]
      first | done | simp
    · rw [if_neg h]
      by_cases hlt : y.txn < n
      · rw [if_pos hlt, if_pos (by omega)]
        omega
      · rw [if_neg hlt, if_neg (by omega)]
        omega
theorem needTo_all {n : Nat} : ∀ {l : Tb}, l.Pairwise (fun a b => a.txn < b.txn) → (∀ x ∈ l, 0 ≤ x.txn ∧ x.txn < n) → l.needTo n = l.need
  | [], _, _ => by
    have : ∀ n, needTo [] n = 0 := fun n => by
      induction n with
      | zero => rfl
      | succ n ih => show needTo [] n + 0 = 0; rw [ih]; try rfl
    rw [this]
    rfl
  | y :: l, h, hr => by
    obtain ⟨h1, h2⟩ := List.pairwise_cons.1 h
    have hy := hr y (.head _)
    have hn : at_ l y.txn = none := by
      cases ha : at_ l y.txn with
      | none => rfl
      | some x =>
        obtain ⟨hx, e⟩ := at_some ha
        have := h1 x hx
        omega
    rw [needTo_cons y l hy.1 hn, if_pos hy.2, needTo_all h2 fun x hx => hr x (.tail _ hx)]
    show _ = 1 + y.left + need l
    omega
theorem need_nonneg {l : Tb} (h : ∀ x ∈ l, 0 ≤ x.left ∧ x.left ≤ 1048576) : 0 ≤ l.need ∧ l.need ≤ 1048577 * l.length := by
  induction l with
  | nil => exact ⟨Int.le_refl _, by simp [need]⟩
  | cons y l ih =>
    have h1 := h y (.head _)
    have h2 := ih fun x hx => h x (.tail _ hx)
    have e : need (y :: l) = 1 + y.left + need l := rfl
    rw [e, List.length_cons]
    omega
end Tb
end Go.Proofs.Ytfbghdkbimnnbaa
