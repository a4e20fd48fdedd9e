/- Package table: a table in memory; what writing a transaction leaves; find. -/
import Derived.Test.YtfbghdkbimnnbaaRows
import Derived.Test.YtfbghdkbimnnbaaFoot
import Derived.Test.YtfbghdkbimnnbaaRng
import Derived.Test.YtfbghdkbimnnbaaTb
namespace Go.Proofs.Ytfbghdkbimnnbaa
open Go.RowKit Go.MapKept

/-- Marks as cells. -/
def mkV (l : List (Int × Int)) : List Value := l.flatMap fun m => [.int .i64 m.1, .int .i64 m.2]
theorem mkV_len : ∀ l : List (Int × Int), (mkV l).length = l.length * 2
  | [] => rfl
  | _ :: l => by
    have := mkV_len l
    unfold mkV at this ⊢
    rw [List.flatMap_cons, List.length_append, this, List.length_cons]
    simp only [List.length_cons, List.length_nil]
    omega
theorem mkV_snoc (l : List (Int × Int)) (a b : Int) : mkV l ++ [.int .i64 a, .int .i64 b] = mkV (l ++ [(a, b)]) := by
  unfold mkV; rw [List.flatMap_append]; rfl
theorem mkV_take (l : List (Int × Int)) (k : Nat) (hk : k ≤ l.length) : mkV (l.take k) = (mkV l).take (k * 2) := by
  have e : mkV (l.take k ++ l.drop k) = mkV (l.take k) ++ mkV (l.drop k) := by unfold mkV; rw [List.flatMap_append]
  rw [List.take_append_drop] at e
  have hl : (mkV (l.take k)).length = k * 2 := by rw [mkV_len, List.length_take, Nat.min_eq_left hk]
  rw [e, ← hl, List.take_left]
theorem mkV_at : ∀ (l : List (Int × Int)) (j : Nat) (p : Int × Int), l[j]? = some p → (mkV l)[j * 2]? = some (.int .i64 p.1) ∧ (mkV l)[j * 2 + 1]? = some (.int .i64 p.2)
  | [], j, p, h => by simp at h
  | x :: l, 0, p, h => by simp at h; subst h; exact ⟨rfl, rfl⟩
  | x :: l, j + 1, p, h => by
    have := mkV_at l j p (by simpa using h)
    have e : (j + 1) * 2 = j * 2 + 1 + 1 := by omega
    rw [e]
    exact this
/-- A transaction's cells. -/
def stCells (x : Tx) (v : Value) : Array Value := #[.int .i64 x.txn, .int .i64 x.first, .int .i64 x.last, .int .i64 x.left, v]
def ptrs (B : Int → Nat) (l : Tb) : Int → Option Value := fun i => (l.at_ i).map fun _ => .pointer (some ⟨B i, 0, none⟩)
/-- A map that holds the transactions, or none. -/
def Txns (w : World) (m : Option Nat) (B : Int → Nat) (l : Tb) : Prop := match m with
  | none => l = []
  | some b => BMap w b (ptrs B l)
structure TbRaw (w : World) (F : Foot) (q : Nat) (m : Option Nat) (B : Int → Nat) (V : Int → Value) (l : Tb) : Prop where
  head : Blk w q 62 #[.map m]
  map : Txns w m B l
  st : ∀ x ∈ l, Blk w (B x.txn) 66 (stCells x (V x.txn))
  mks : ∀ x ∈ l, w.ownsRow 0 73 2 (V x.txn) x.marks.length (mkV x.marks)
  apartB : ∀ x ∈ l, ∀ y ∈ l, B x.txn = B y.txn → x.txn = y.txn
  apartV : ∀ x ∈ l, ∀ y ∈ l, ∀ b, (V x.txn).ownBlock = some b → (V y.txn).ownBlock = some b → x.txn = y.txn
  fq : F q
  fm : ∀ b, m = some b → F b
  fb : ∀ x ∈ l, F (B x.txn)
  fv : ∀ x ∈ l, ∀ b, (V x.txn).ownBlock = some b → F b
  lt : ∀ b, F b → b < w.heap.size
/-- The table at block q, with the footprint F, is l. -/
def IsTab (w : World) (F : Foot) (q : Nat) (l : Tb) : Prop := l.Ok ∧ ∃ m B V, TbRaw w F q m B V l
theorem Txns.keep {w w' : World} {m : Option Nat} {B : Int → Nat} {l : Tb} (h : Txns w m B l) (hk : ∀ b, m = some b → w'.heap[b]? = w.heap[b]?) : Txns w' m B l := by
  cases m with
  | none => exact h
  | some b => exact BMap.keep h (hk b rfl)
theorem Txns.some {w : World} {b : Nat} {B : Int → Nat} {l : Tb} (h : Txns w (.some b) B l) : BMap w b (ptrs B l) := h
theorem mem_set_txn {l : Tb} {x' y : Tx} (h : y ∈ l.set x') {x : Tx} (hx : l.at_ x'.txn = some x) : ∃ y0 ∈ l, y0.txn = y.txn := by
  rcases Tb.mem_set h with rfl | ⟨h, _⟩
  · exact ⟨x, (Tb.at_some hx).1, (Tb.at_some hx).2⟩
  · exact ⟨y, h, rfl⟩
namespace TbRaw
variable {w w' : World} {F F2 F2' : Foot} {q : Nat} {m : Option Nat} {B : Int → Nat} {V : Int → Value} {l : Tb}
theorem keep (h : TbRaw w F q m B V l) (hk : ∀ b, F b → w'.heap[b]? = w.heap[b]?) (hs : w.heap.size ≤ w'.heap.size) : TbRaw w' F q m B V l :=
  ⟨(hk q h.fq).trans h.head, h.map.keep fun b hb => hk b (h.fm b hb), fun x hx => (hk _ (h.fb x hx)).trans (h.st x hx), fun x hx => own_keep (h.mks x hx) fun b hb => hk b (h.fv x hx b hb), h.apartB, h.apartV, h.fq, h.fm, h.fb, h.fv, fun b hb => Nat.lt_of_lt_of_le (h.lt b hb) hs⟩
theorem below (h : TbRaw w F q m B V l) (hb : Below w.heap.size w w') : TbRaw w' F q m B V l := h.keep (fun b hF => hb.block b (h.lt b hF)) hb.size
theorem cMap (h : TbRaw w F q m B V l) : w.cell? ⟨q, 0, none⟩ = some (.map m) := h.head.cell 0
theorem cells (h : TbRaw w F q m B V l) {t : Int} {x : Tx} (hx : l.at_ t = some x) : Blk w (B t) 66 (stCells x (V t)) := by
  obtain ⟨h1, h2⟩ := Tb.at_some hx
  have := h.st x h1
  rw [h2] at this
  exact this
theorem marks (h : TbRaw w F q m B V l) {t : Int} {x : Tx} (hx : l.at_ t = some x) : w.ownsRow 0 73 2 (V t) x.marks.length (mkV x.marks) := by
  obtain ⟨h1, h2⟩ := Tb.at_some hx
  have := h.mks x h1
  rw [h2] at this
  exact this
/-- One transaction was written. -/
theorem upd (r : TbRaw w F q m B V l) {t : Int} {x x' : Tx} (hx : l.at_ t = some x) (hx' : x'.txn = t) {v' : Value} (hst : Blk w' (B t) 66 (stCells x' v')) (hmk : w'.ownsRow 0 73 2 v' x'.marks.length (mkV x'.marks))
    (hloc : ∀ b, v'.ownBlock = some b → (V t).ownBlock = some b ∨ w.heap.size ≤ b) {G' : Foot} (hs : Step (fun b => b = B t ∨ (V t).ownBlock = some b) G' w w') :
    TbRaw w' (fun b => F b ∨ v'.ownBlock = some b) q m B (fun i => if i = t then v' else V i) (l.set x') ∧ Step F (fun b => F b ∨ v'.ownBlock = some b) w w' := by
  subst hx'
  obtain ⟨hm, ht⟩ := Tb.at_some hx
  have hBt := r.cells hx
  have hVt := r.marks hx
  have hqB : q ≠ B x'.txn := fun e => by
    have h1 := r.head
    unfold Blk at h1 hBt
    rw [← e, h1] at hBt
    simp at hBt
  have hqV : (V x'.txn).ownBlock ≠ some q := own_blk hVt r.head (by decide)
  have hFB : F (B x'.txn) := by rw [← ht]; exact r.fb x hm
  have hFV : ∀ b, (V x'.txn).ownBlock = some b → F b := by rw [← ht]; exact r.fv x hm
  have hk : ∀ b, b < w.heap.size → b ≠ B x'.txn → (V x'.txn).ownBlock ≠ some b → w'.heap[b]? = w.heap[b]? := fun b hb h1 h2 => hs.block b hb fun e => e.elim h1 h2
  have old : ∀ y ∈ l, y.txn ≠ x'.txn → (V y.txn).ownBlock ≠ some (B x'.txn) ∧ ∀ b, (V y.txn).ownBlock = some b → (V x'.txn).ownBlock ≠ some b := fun y hy hne =>
    ⟨own_blk (r.mks y hy) hBt (by decide), fun b hb hb2 => hne (r.apartV y hy x hm b hb (by rw [ht]; exact hb2) |>.trans ht)⟩
  refine ⟨⟨(hk q (r.lt q r.fq) hqB hqV).trans r.head, ?_, fun y hy => ?_, fun y hy => ?_, fun y hy z hz => ?_, fun y hy z hz b => ?_, .inl r.fq, fun b hb => .inl (r.fm b hb), fun y hy => ?_, fun y hy b hb => ?_, fun b hb => ?_⟩, ?_⟩
  · have h1 := r.map
    have hp : ptrs B (l.set x') = ptrs B l := by
      funext i
      unfold ptrs
      rw [Tb.at_set]
      by_cases hi : i = x'.txn
      · rw [if_pos hi]; cases l.at_ i <;> rfl
      · rw [if_neg hi]
    cases m with
    | none =>
      have e : l = [] := h1
      subst e
      cases hm
    | some b =>
      show BMap w' b (ptrs B (l.set x'))
      rw [hp]
      exact h1.some.keep (hk b h1.some.lt (fun e => (h1.some.cells hBt) e.symm) (own_map hVt h1.some.isMap))
  · rcases Tb.mem_set hy with rfl | ⟨hy, hne⟩
    · simp only [if_pos]; exact hst
    · simp only [if_neg hne]
      exact (hk _ (r.lt _ (r.fb y hy)) (fun e => hne ((r.apartB y hy x hm (by rw [ht]; exact e)).trans ht)) (own_blk hVt (r.st y hy) (by decide))).trans (r.st y hy)
  · rcases Tb.mem_set hy with rfl | ⟨hy, hne⟩
    · simp only [if_pos]; exact hmk
    · simp only [if_neg hne]
      obtain ⟨h1, h2⟩ := old y hy hne
      exact own_keep (r.mks y hy) fun b hb => hk b (r.lt b (r.fv y hy b hb)) (fun e => h1 (e ▸ hb)) (h2 b hb)
  · obtain ⟨y0, hy0, e1⟩ := mem_set_txn hy hx
    obtain ⟨z0, hz0, e2⟩ := mem_set_txn hz hx
    rw [← e1, ← e2]
    exact r.apartB y0 hy0 z0 hz0
  · intro h1 h2
    rcases Tb.mem_set hy with e1 | ⟨hy', hne⟩ <;> rcases Tb.mem_set hz with e2 | ⟨hz', hnz⟩
    · rw [e1, e2]
    · rw [e1] at h1 ⊢
      simp only [if_pos] at h1
      simp only [if_neg hnz] at h2
      rcases hloc b h1 with h3 | h3
      · exact absurd h3 ((old z hz' hnz).2 b h2)
      · have := r.lt b (r.fv z hz' b h2); omega
    · rw [e2] at h2 ⊢
      simp only [if_pos] at h2
      simp only [if_neg hne] at h1
      rcases hloc b h2 with h3 | h3
      · exact absurd h3 ((old y hy' hne).2 b h1)
      · have := r.lt b (r.fv y hy' b h1); omega
    · simp only [if_neg hne] at h1
      simp only [if_neg hnz] at h2
      exact r.apartV y hy' z hz' b h1 h2
  · obtain ⟨y0, hy0, e1⟩ := mem_set_txn hy hx
    rw [← e1]
    exact .inl (r.fb y0 hy0)
  · rcases Tb.mem_set hy with rfl | ⟨hy, hne⟩
    · simp only [if_pos] at hb; exact .inr hb
    · simp only [if_neg hne] at hb; exact .inl (r.fv y hy b hb)
  · rcases hb with hb | hb
    · exact Nat.lt_of_lt_of_le (r.lt b hb) hs.size
    · exact (hmk.lt b hb).2
  · exact ⟨hs.os, hs.tape, hs.output, hs.size, fun b hb hf => hs.block b hb fun e => hf (e.elim (fun e => e ▸ hFB) (hFV b)), fun b hb => hb.elim .inl fun e => (hloc b e).elim (fun e => .inl (hFV b e)) .inr⟩
end TbRaw
namespace IsTab
variable {w w' : World} {F F2 F2' : Foot} {q : Nat} {l : Tb}
theorem keep (h : IsTab w F q l) (hk : ∀ b, F b → w'.heap[b]? = w.heap[b]?) (hs : w.heap.size ≤ w'.heap.size) : IsTab w' F q l := by
  obtain ⟨ho, m, B, V, r⟩ := h
  exact ⟨ho, m, B, V, r.keep hk hs⟩
theorem below (h : IsTab w F q l) (hb : Below w.heap.size w w') : IsTab w' F q l := by
  obtain ⟨ho, m, B, V, r⟩ := h
  exact ⟨ho, m, B, V, r.below hb⟩
theorem lt (h : IsTab w F q l) : ∀ b, F b → b < w.heap.size := by obtain ⟨_, _, _, _, r⟩ := h; exact r.lt
/-- What another one does. -/
theorem apart (h : IsTab w F q l) (hs : Step F2 F2' w w') (ha : ∀ b, F b → ¬ F2 b) : IsTab w' F q l ∧ ∀ b, F b → ¬ F2' b :=
  ⟨h.keep (fun b hb => hs.block b (h.lt b hb) (ha b hb)) hs.size, fun b hb g => (hs.foot b g).elim (ha b hb) (fun k => by have := h.lt b hb; omega)⟩
end IsTab

theorem look10 {w : World} {m : Option Nat} {B : Int → Nat} {l : Tb} (h : Txns w m B l) (i : Int) :
    (Instr.lookup 60 (.map m) (.int .i64 i) false).run Try.prog w = .ok ((ptrs B l i).getD (.pointer none)) w := by
  have hz : ∀ w, (zeroValue 63).run Try.prog w = .ok (.pointer none) w := fun w => by kernel_rfl
  cases m with
  | none =>
    obtain rfl : l = [] := h
    rcases findNow_spec (d := .int .i64) (k := .int .i64 i) (by simp [IsKey]) [] 0 (by simp) with ⟨h1, _⟩ | ⟨j, e, _, h2, _⟩
    · simp [Instr.lookup, run_underlying Try.underlying60, MapKept.run_checkKey Try.underlying3 (show IsKey (.int .i64) (.int .i64 i) by simp [IsKey]), MapKept.run_findKey Try.underlying3 h1, hz, Result.andThen, ptrs, Tb.at_]
    · simp at h2
  | some b =>
    obtain ⟨es, clock, hb, F, hf, _⟩ := h.some
    rcases findNow_spec (d := .int .i64) (k := .int .i64 i) (by simp [IsKey]) es.toList 0 F.isKey with ⟨h1, h2⟩ | ⟨j, e, h1, h2, h3⟩
    · rw [← hf i, findAt_none F i h2]
      simp [Instr.lookup, run_underlying Try.underlying60, MapKept.run_getObj_map hb, MapKept.run_checkKey Try.underlying3 (show IsKey (.int .i64) (.int .i64 i) by simp [IsKey]), MapKept.run_findKey Try.underlying3 h1, Result.andThen, hz]
    · rw [← hf i, findAt_some F i h2 h3]
      simp [Instr.lookup, run_underlying Try.underlying60, MapKept.run_getObj_map hb, MapKept.run_checkKey Try.underlying3 (show IsKey (.int .i64) (.int .i64 i) by simp [IsKey]), MapKept.run_findKey Try.underlying3 h1, Result.andThen]
section
variable {w : World} {F : Foot} {q : Nat} {m : Option Nat} {B : Int → Nat} {V : Int → Value} {l : Tb}
set_option maxRecDepth 100000 in
set_option maxHeartbeats 4000000 in
theorem tbFind_some (r : TbRaw w F q m B V l) {t : Int} {x : Tx} (hx : l.at_ t = some x) :
    Calls Try.prog 30 #[.pointer (some ⟨q, 0, none⟩), .int .i64 t] w fun e w' => e = .returned (.tuple #[.pointer (some ⟨B t, 0, none⟩), .int .i64 0]) ∧ w = w' := by
  have c0 := r.cMap
  have lk := look10 r.map t
  have e : ptrs B l t = some (.pointer (some ⟨B t, 0, none⟩)) := by unfold ptrs; rw [hx]; rfl
  rw [e] at lk
  clear e r hx
  generalize B t = g at *
  go_enter Try.func30, Try.ntmps30
  go_wp2
  go_ret2
  exact ⟨rfl, rfl⟩
set_option maxRecDepth 100000 in
set_option maxHeartbeats 4000000 in
theorem tbFind_none (r : TbRaw w F q m B V l) {t : Int} (hx : l.at_ t = none) :
    Calls Try.prog 30 #[.pointer (some ⟨q, 0, none⟩), .int .i64 t] w fun e w' => e = .returned (.tuple #[.pointer none, .int .i64 7]) ∧ w = w' := by
  have c0 := r.cMap
  have lk := look10 r.map t
  have e : ptrs B l t = none := by unfold ptrs; rw [hx]; rfl
  rw [e] at lk
  clear e r hx
  go_enter Try.func30, Try.ntmps30
  go_wp2
  go_ret2
  exact ⟨rfl, rfl⟩
set_option maxRecDepth 100000 in
theorem tbFind_nil (t : Int) (w : World) :
    Calls Try.prog 30 #[.pointer none, .int .i64 t] w fun e w' => e = .returned (.tuple #[.pointer none, .int .i64 10]) ∧ w = w' := by
  go_enter Try.func30, Try.ntmps30
  go_wp2
  go_ret2
  exact ⟨rfl, rfl⟩
end
end Go.Proofs.Ytfbghdkbimnnbaa
