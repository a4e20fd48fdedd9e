/- Maps keyed by whole numbers: what they hold, as a function; the five operations; nothing of the program is imported. -/
import Derived.Test.YtpcfhpffbogjmaaBase
import Derived.MapKept
import Derived.Maps.OwnSet
import Derived.Shelf.SlMaps.Clone
namespace Go.Proofs.Ytpcfhpffbogjmaa
open Go.RowKit Go.MapKept

/-- The entry of a key, among entries. -/
def findAt (l : List MapEntry) (i : Int) : Option Value := (l.find? fun e => match e.key with | .int .i64 k => k == i | _ => false).map (·.val)
structure Entries (l : List MapEntry) : Prop where
  keys : ∀ e ∈ l, ∃ i, e.key = .int .i64 i
  apart : l.Pairwise fun a b => a.key ≠ b.key
/-- Block b is a map that holds f i at i. -/
def IsMap (w : World) (b : Nat) (f : Int → Option Value) : Prop :=
  ∃ es clock, w.heap[b]? = some (.map es clock) ∧ Entries es.toList ∧ ∀ i, findAt es.toList i = f i

theorem findAt_cons (e : MapEntry) (l : List MapEntry) (k i : Int) (h : e.key = .int .i64 k) : findAt (e :: l) i = if k = i then some e.val else findAt l i := by
  unfold findAt
  rw [List.find?_cons]
  simp only [h]
  by_cases g : k = i
  · simp [g]
  · have : (k == i) = false := by simpa using g
    simp [this, g]
theorem Entries.tail {e : MapEntry} {l : List MapEntry} (h : Entries (e :: l)) : Entries l := ⟨fun x hx => h.keys x (.tail _ hx), (List.pairwise_cons.1 h.apart).2⟩
theorem findAt_none {l : List MapEntry} (h : Entries l) (i : Int) (hn : ∀ e ∈ l, e.key ≠ .int .i64 i) : findAt l i = none := by
  induction l with
  | nil => rfl
  | cons e l ih =>
    obtain ⟨k, hk⟩ := h.keys e (.head _)
    rw [findAt_cons e l k i hk, if_neg (fun g => hn e (.head _) (by rw [hk, g])), ih h.tail fun x hx => hn x (.tail _ hx)]
theorem findAt_some {l : List MapEntry} (h : Entries l) (i : Int) {j : Nat} {e : MapEntry} (hj : l[j]? = some e) (hk : e.key = .int .i64 i) : findAt l i = some e.val := by
  induction l generalizing j with
  | nil => simp at hj
  | cons x l ih =>
    obtain ⟨k, hx⟩ := h.keys x (.head _)
    rw [findAt_cons x l k i hx]
    cases j with
    | zero =>
      simp only [List.getElem?_cons_zero, Option.some.injEq] at hj
      subst hj
      rw [hx] at hk
      simp only [Value.int.injEq, true_and] at hk
      rw [if_pos hk]
    | succ j =>
      simp only [List.getElem?_cons_succ] at hj
      have hm : e ∈ l := List.mem_of_getElem? hj
      have hne := (List.pairwise_cons.1 h.apart).1 e hm
      rw [if_neg (fun g => hne (by rw [hx, hk, g])), ih h.tail hj]
theorem findAt_append (l r : List MapEntry) (i : Int) : findAt (l ++ r) i = (findAt l i).or (findAt r i) := by
  unfold findAt
  rw [List.find?_append]
  cases List.find? _ l <;> simp
/-- One entry's value is another one. -/
theorem findAt_set {l : List MapEntry} (h : Entries l) (i : Int) (v : Value) {j : Nat} {e : MapEntry} (hj : l[j]? = some e) (hk : e.key = .int .i64 i) (c : Int) :
    findAt (l.set j { e with key := .int .i64 i, val := v }) c = if c = i then some v else findAt l c := by
  induction l generalizing j with
  | nil => simp at hj
  | cons x l ih =>
    obtain ⟨k, hx⟩ := h.keys x (.head _)
    cases j with
    | zero =>
      simp only [List.getElem?_cons_zero, Option.some.injEq] at hj
      subst hj
      rw [hx] at hk
      simp only [Value.int.injEq, true_and] at hk
      subst hk
      rw [List.set_cons_zero, findAt_cons _ _ k c rfl, findAt_cons x l k c hx]
      by_cases g : k = c
      · subst g; simp
      · rw [if_neg g, if_neg g, if_neg (Ne.symm g)]
    | succ j =>
      simp only [List.getElem?_cons_succ] at hj
      rw [List.set_cons_succ, findAt_cons _ _ k c hx, findAt_cons x l k c hx, ih h.tail hj]
      have hne := (List.pairwise_cons.1 h.apart).1 e (List.mem_of_getElem? hj)
      by_cases g : k = c
      · subst g
        rw [if_pos rfl, if_pos rfl, if_neg (fun g => hne (by rw [hx, hk, g]))]
      · rw [if_neg g, if_neg g]
theorem findAt_erase {l : List MapEntry} (h : Entries l) (i : Int) {j : Nat} {e : MapEntry} (hj : l[j]? = some e) (hk : e.key = .int .i64 i) (c : Int) :
    findAt (l.eraseIdx j) c = if c = i then none else findAt l c := by
  induction l generalizing j with
  | nil => simp at hj
  | cons x l ih =>
    obtain ⟨k, hx⟩ := h.keys x (.head _)
    cases j with
    | zero =>
      simp only [List.getElem?_cons_zero, Option.some.injEq] at hj
      subst hj
      rw [hx] at hk
      simp only [Value.int.injEq, true_and] at hk
      subst hk
      rw [List.eraseIdx_cons_zero, findAt_cons x l k c hx]
      by_cases g : k = c
      · subst g
        rw [if_pos rfl]
        exact findAt_none h.tail _ fun y hy e => (List.pairwise_cons.1 h.apart).1 y hy (by rw [hx, e])
      · rw [if_neg g, if_neg (Ne.symm g)]
    | succ j =>
      simp only [List.getElem?_cons_succ] at hj
      rw [List.eraseIdx_cons_succ, findAt_cons _ _ k c hx, findAt_cons x l k c hx, ih h.tail hj]
      have hne := (List.pairwise_cons.1 h.apart).1 e (List.mem_of_getElem? hj)
      by_cases g : k = c
      · subst g
        rw [if_pos rfl, if_pos rfl, if_neg (fun g => hne (by rw [hx, hk, g]))]
      · rw [if_neg g, if_neg g]

theorem Entries.isKey {l : List MapEntry} (h : Entries l) : ∀ x ∈ l, IsKey (.int .i64) x.key := fun x hx => by
  obtain ⟨i, hi⟩ := h.keys x hx
  rw [hi]; simp [IsKey]
theorem Entries.push {l : List MapEntry} (h : Entries l) (i : Int) (v : Value) (c : Nat) (hn : ∀ e ∈ l, e.key ≠ .int .i64 i) : Entries (l ++ [{ key := .int .i64 i, val := v, born := c }]) :=
  ⟨fun e he => by
    rcases List.mem_append.1 he with he | he
    · exact h.keys e he
    · simp at he; subst he; exact ⟨i, rfl⟩,
   List.pairwise_append.2 ⟨h.apart, by simp, fun a ha b hb => by simp at hb; subst hb; exact hn a ha⟩⟩
theorem Entries.set {l : List MapEntry} (h : Entries l) (i : Int) (v : Value) {j : Nat} {e : MapEntry} (hj : l[j]? = some e) (hk : e.key = .int .i64 i) : Entries (l.set j { e with key := .int .i64 i, val := v }) := by
  have hm : (l.set j { e with key := .int .i64 i, val := v }).map (·.key) = l.map (·.key) := by
    rw [List.map_set]
    apply List.ext_getElem?
    intro n
    rw [List.getElem?_set]
    by_cases g : j = n
    · subst g
      rw [if_pos rfl, List.getElem?_map, hj]
      simp [List.getElem?_eq_some_iff] at hj
      obtain ⟨hlt, _⟩ := hj
      simp [hlt, hk]
    · rw [if_neg g]
  refine ⟨fun x hx => ?_, ?_⟩
  · have : x.key ∈ l.map (·.key) := hm ▸ List.mem_map.2 ⟨x, hx, rfl⟩
    obtain ⟨y, hy, e⟩ := List.mem_map.1 this
    rw [← e]; exact h.keys y hy
  · have : (l.map (·.key)).Pairwise (· ≠ ·) := List.pairwise_map.2 h.apart
    rw [← hm] at this
    exact List.pairwise_map.1 this
theorem Entries.erase {l : List MapEntry} (h : Entries l) (j : Nat) : Entries (l.eraseIdx j) :=
  ⟨fun x hx => h.keys x ((List.eraseIdx_sublist l j).subset hx), h.apart.sublist (List.eraseIdx_sublist l j)⟩
theorem Entries.none : Entries [] := ⟨fun e he => by simp at he, List.Pairwise.nil⟩

namespace IsMap
variable {P : Program} {w w' : World} {b : Nat} {f : Int → Option Value}
theorem lt (h : IsMap w b f) : b < w.heap.size := by obtain ⟨es, c, hb, _⟩ := h; exact (Array.getElem?_eq_some_iff.1 hb).1
theorem keep (h : IsMap w b f) (e : w'.heap[b]? = w.heap[b]?) : IsMap w' b f := by obtain ⟨es, c, hb, h⟩ := h; exact ⟨es, c, e.trans hb, h⟩
theorem drew (h : IsMap w b f) : IsMap w.drew b f := h.keep rfl
theorem congr {g : Int → Option Value} (h : IsMap w b f) (e : ∀ i, f i = g i) : IsMap w b g := by obtain ⟨es, c, hb, h, k⟩ := h; exact ⟨es, c, hb, h, fun i => (k i).trans (e i)⟩
theorem made (w : World) : IsMap (w.alloc (.map #[] 0)) w.heap.size fun _ => none := ⟨#[], 0, (heap_alloc w _).1, .none, fun _ => rfl⟩
theorem cells {g : Nat} {t : TypeId} {cs : Array Value} (h : IsMap w b f) (k : Blk w g t cs) : g ≠ b := by
  rintro rfl
  obtain ⟨es, c, hb, _⟩ := h
  unfold Blk at k
  rw [hb] at k
  cases k

variable {t kt et : TypeId} (ht : P.underlying t = some (.map kt et)) (hk : P.underlying kt = some (.int .i64))
include ht hk
/-- 'm[i]', with 'ok'. -/
theorem look (h : IsMap w b f) (i : Int) {z : Value} (hz : (zeroValue et).run P w = .ok z w) :
    (Instr.lookup t (.map (some b)) (.int .i64 i) true).run P w = .ok (.tuple #[(f i).getD z, .bool (f i).isSome]) w := by
  obtain ⟨es, clock, hb, F, hf⟩ := h
  rcases findNow_spec (d := .int .i64) (k := .int .i64 i) (by simp [IsKey]) es.toList 0 F.isKey with ⟨h1, h2⟩ | ⟨j, e, h1, h2, h3⟩
  · rw [← hf i, findAt_none F i h2]
    simp [Instr.lookup, run_underlying ht, MapKept.run_getObj_map hb, MapKept.run_checkKey hk (show IsKey (.int .i64) (.int .i64 i) by simp [IsKey]), MapKept.run_findKey hk h1, Result.andThen, hz]
  · rw [← hf i, findAt_some F i h2 h3]
    simp [Instr.lookup, run_underlying ht, MapKept.run_getObj_map hb, MapKept.run_checkKey hk (show IsKey (.int .i64) (.int .i64 i) by simp [IsKey]), MapKept.run_findKey hk h1, Result.andThen]
/-- 'm[i] = v'. -/
theorem put (h : IsMap w b f) (i : Int) (v : Value) :
    ∃ o, (Instr.mapUpdate t (.map (some b)) (.int .i64 i) v).run P w = .ok () { w with heap := w.heap.setIfInBounds b o } ∧ IsMap { w with heap := w.heap.setIfInBounds b o } b fun c => if c = i then some v else f c := by
  obtain ⟨es, clock, hb, F, hf⟩ := h
  rcases findNow_spec (d := .int .i64) (k := .int .i64 i) (by simp [IsKey]) es.toList 0 F.isKey with ⟨h1, h2⟩ | ⟨j, e, h1, h2, h3⟩
  · refine ⟨.map (es.push { key := .int .i64 i, val := v, born := clock }) (clock + 1), ?_, _, _, (heap_set hb).1, ?_, ?_⟩
    · simp [Instr.mapUpdate, run_underlying ht, MapKept.run_getObj_map hb, MapKept.run_checkKey hk (show IsKey (.int .i64) (.int .i64 i) by simp [IsKey]), MapKept.run_findKey hk h1, MapKept.run_setObj_map _ hb, Result.andThen]
    · rw [Array.toList_push]; exact F.push i v clock h2
    · intro c
      rw [Array.toList_push, findAt_append, hf c, findAt_cons _ _ i c rfl]
      by_cases g : c = i
      · subst g
        rw [← hf c, findAt_none F c h2]
        simp
      · show _ = if c = i then some v else f c
        rw [if_neg g, if_neg (Ne.symm g)]
        cases f c <;> rfl
  · have hj : es[j]? = some e := by simpa using h2
    have eset : (es.modify j fun e => { e with key := .int .i64 i, val := v }).toList = es.toList.set j { e with key := .int .i64 i, val := v } := by
      apply List.ext_getElem?
      intro n
      rw [List.getElem?_set, Array.getElem?_toList, Array.getElem?_modify]
      by_cases g : j = n
      · subst g
        have hlt : j < es.toList.length := (List.getElem?_eq_some_iff.1 h2).1
        rw [if_pos rfl, if_pos rfl, hj]
        simp only [Option.map_some]
        rw [if_pos hlt]
      · rw [if_neg g, if_neg g, Array.getElem?_toList]
    refine ⟨.map (es.modify j fun e => { e with key := .int .i64 i, val := v }) clock, ?_, _, _, (heap_set hb).1, ?_, ?_⟩
    · simp [Instr.mapUpdate, run_underlying ht, MapKept.run_getObj_map hb, MapKept.run_checkKey hk (show IsKey (.int .i64) (.int .i64 i) by simp [IsKey]), MapKept.run_findKey hk h1, hj, h3, run_keyThatStays (show IsKey (.int .i64) (.int .i64 i) by simp [IsKey]), MapKept.run_setObj_map _ hb, Result.andThen]
    · rw [eset]; exact F.set i v h2 h3
    · intro c
      rw [eset, findAt_set F i v h2 h3, hf c]
/-- 'delete(m, i)'. -/
theorem drop (h : IsMap w b f) (i : Int) (ty : TypeId) :
    ∃ o, (Builtin.delete_ #[t, kt] ty #[.map (some b), .int .i64 i]).run P w = .ok (.tuple #[]) { w with heap := w.heap.setIfInBounds b o } ∧ IsMap { w with heap := w.heap.setIfInBounds b o } b fun c => if c = i then none else f c := by
  obtain ⟨es, clock, hb, F, hf⟩ := h
  rcases findNow_spec (d := .int .i64) (k := .int .i64 i) (by simp [IsKey]) es.toList 0 F.isKey with ⟨h1, h2⟩ | ⟨j, e, h1, h2, h3⟩
  · refine ⟨.map es clock, ?_, _, _, (heap_set hb).1, F, ?_⟩
    · simp [Builtin.delete_, run_underlying ht, MapKept.run_getObj_map hb, MapKept.run_checkKey hk (show IsKey (.int .i64) (.int .i64 i) by simp [IsKey]), MapKept.run_findKey hk h1, MapKept.run_setObj_map _ hb, Result.andThen]
    · intro c
      rw [hf c]
      show _ = if c = i then none else f c
      by_cases g : c = i
      · subst g; rw [← hf c, findAt_none F c h2]; simp
      · rw [if_neg g]
  · have hlt : j < es.size := by simpa using (List.getElem?_eq_some_iff.1 h2).1
    have eer : (es.eraseIdxIfInBounds j).toList = es.toList.eraseIdx j := by
      unfold Array.eraseIdxIfInBounds
      rw [dif_pos hlt, Array.toList_eraseIdx]
    refine ⟨.map (es.eraseIdxIfInBounds j) clock, ?_, _, _, (heap_set hb).1, ?_, ?_⟩
    · simp [Builtin.delete_, run_underlying ht, MapKept.run_getObj_map hb, MapKept.run_checkKey hk (show IsKey (.int .i64) (.int .i64 i) by simp [IsKey]), MapKept.run_findKey hk h1, MapKept.run_setObj_map _ hb, Result.andThen]
    · rw [eer]; exact F.erase j
    · intro c; rw [eer, findAt_erase F i h2 h3, hf c]
omit hk in
/-- 'clear(m)'. -/
theorem clear (h : IsMap w b f) (ty : TypeId) :
    ∃ o, (Builtin.clear_ #[t] ty #[.map (some b)]).run P w = .ok (.tuple #[]) { w with heap := w.heap.setIfInBounds b o } ∧ IsMap { w with heap := w.heap.setIfInBounds b o } b fun _ => none := by
  obtain ⟨es, clock, hb, F, hf⟩ := h
  exact ⟨.map #[] clock, by simp [Builtin.clear_, run_underlying ht, MapKept.run_getObj_map hb, MapKept.run_setObj_map _ hb, Result.andThen], _, _, (heap_set hb).1, .none, fun _ => rfl⟩
end IsMap
/-- Only one block is another one. -/
theorem below_setObj {a w : World} {B b : Nat} (h : Below B a w) (hb : B ≤ b) (o : Obj) : Below B a { w with heap := w.heap.setIfInBounds b o } :=
  ⟨h.os, h.tape, h.output, by simpa using h.size, fun i hi => (show (w.heap.setIfInBounds b o)[i]? = _ by rw [Array.getElem?_setIfInBounds, if_neg (by omega)]; exact h.block i hi)⟩
end Go.Proofs.Ytpcfhpffbogjmaa
