/- Maps keyed by whole numbers that can be gone through: what they hold, as a function, and each entry's own birth; nothing of the program is imported. -/
import Derived.Test.YtgjkhjlobfblcaaMap
namespace Go.Proofs.Ytgjkhjlobfblcaa
open Go.RowKit Go.MapKept

/-- Block b is a map that holds f i at i, whose entries were born one by one. -/
def BMap (w : World) (b : Nat) (f : Int → Option Value) : Prop :=
  ∃ es clock, w.heap[b]? = some (.map es clock) ∧ Entries es.toList ∧ (∀ i, findAt es.toList i = f i) ∧ Stamped es clock
namespace BMap
variable {P : Program} {w w' : World} {b : Nat} {f : Int → Option Value}
theorem isMap (h : BMap w b f) : IsMap w b f := by obtain ⟨es, c, hb, h, k, _⟩ := h; exact ⟨es, c, hb, h, k⟩
theorem lt (h : BMap w b f) : b < w.heap.size := h.isMap.lt
theorem keep (h : BMap w b f) (e : w'.heap[b]? = w.heap[b]?) : BMap w' b f := by obtain ⟨es, c, hb, h⟩ := h; exact ⟨es, c, e.trans hb, h⟩
theorem drew (h : BMap w b f) : BMap w.drew b f := h.keep rfl
theorem congr {g : Int → Option Value} (h : BMap w b f) (e : ∀ i, f i = g i) : BMap w b g := by obtain ⟨es, c, hb, h, k, s⟩ := h; exact ⟨es, c, hb, h, fun i => (k i).trans (e i), s⟩
theorem made (w : World) : BMap (w.alloc (.map #[] 0)) w.heap.size fun _ => none := ⟨#[], 0, (heap_alloc w _).1, .none, fun _ => rfl, stamped_empty 0⟩
theorem cells {g : Nat} {t : TypeId} {cs : Array Value} (h : BMap w b f) (k : Blk w g t cs) : g ≠ b := h.isMap.cells k
variable {t kt et : TypeId} (ht : P.underlying t = some (.map kt et)) (hk : P.underlying kt = some (.int .i64))
include ht hk
/-- 'm[i] = v'. -/
theorem put (h : BMap w b f) (i : Int) (v : Value) :
    ∃ o, (Instr.mapUpdate t (.map (some b)) (.int .i64 i) v).run P w = .ok () { w with heap := w.heap.setIfInBounds b o } ∧ BMap { w with heap := w.heap.setIfInBounds b o } b fun c => if c = i then some v else f c := by
  obtain ⟨es, clock, hb, F, hf, hs⟩ := h
  rcases findNow_spec (d := .int .i64) (k := .int .i64 i) (by simp [IsKey]) es.toList 0 F.isKey with ⟨h1, h2⟩ | ⟨j, e, h1, h2, h3⟩
  · refine ⟨.map (es.push { key := .int .i64 i, val := v, born := clock }) (clock + 1), ?_, _, _, (heap_set hb).1, ?_, ?_, stamped_push hs h2⟩
    · simp [Instr.mapUpdate, run_underlying ht, MapKept.run_getObj_map hb, MapKept.run_checkKey hk (show IsKey (.int .i64) (.int .i64 i) by simp [IsKey]), MapKept.run_findKey hk h1, MapKept.run_setObj_map _ hb, Result.andThen]
    · rw [Array.toList_push]; exact F.push i v clock h2
    · intro c
      rw [Array.toList_push, findAt_append, hf c, findAt_cons _ _ i c rfl]
      by_cases g : c = i
      · subst g
        rw [← hf c, findAt_none F c h2]
        simp
      · show _ = if c = i then some v else f c
        rw [if_neg g, if_neg (Ne.symm g)]
        cases f c <;> rfl
  · have hj : es[j]? = some e := by simpa using h2
    have eset : (es.modify j fun e => { e with key := .int .i64 i, val := v }).toList = es.toList.set j { e with key := .int .i64 i, val := v } := by
      apply List.ext_getElem?
      intro n
      rw [List.getElem?_set, Array.getElem?_toList, Array.getElem?_modify]
      by_cases g : j = n
      · subst g
        have hlt : j < es.toList.length := (List.getElem?_eq_some_iff.1 h2).1
        rw [if_pos rfl, if_pos rfl, hj]
        simp only [Option.map_some]
        rw [if_pos hlt]
      · rw [if_neg g, if_neg g, Array.getElem?_toList]
    refine ⟨.map (es.modify j fun e => { e with key := .int .i64 i, val := v }) clock, ?_, _, _, (heap_set hb).1, ?_, ?_, stamped_modify hs j _ (fun _ _ => rfl) fun e' _ hej => ?_⟩
    · simp [Instr.mapUpdate, run_underlying ht, MapKept.run_getObj_map hb, MapKept.run_checkKey hk (show IsKey (.int .i64) (.int .i64 i) by simp [IsKey]), MapKept.run_findKey hk h1, hj, h3, run_keyThatStays (show IsKey (.int .i64) (.int .i64 i) by simp [IsKey]), MapKept.run_setObj_map _ hb, Result.andThen]
    · rw [eset]; exact F.set i v h2 h3
    · intro c
      rw [eset, findAt_set F i v h2 h3, hf c]
    · rw [hj] at hej
      cases hej
      exact h3.symm
/-- 'delete(m, i)'. -/
theorem drop (h : BMap w b f) (i : Int) (ty : TypeId) :
    ∃ o, (Builtin.delete_ #[t, kt] ty #[.map (some b), .int .i64 i]).run P w = .ok (.tuple #[]) { w with heap := w.heap.setIfInBounds b o } ∧ BMap { w with heap := w.heap.setIfInBounds b o } b fun c => if c = i then none else f c := by
  obtain ⟨es, clock, hb, F, hf, hs⟩ := h
  rcases findNow_spec (d := .int .i64) (k := .int .i64 i) (by simp [IsKey]) es.toList 0 F.isKey with ⟨h1, h2⟩ | ⟨j, e, h1, h2, h3⟩
  · refine ⟨.map es clock, ?_, _, _, (heap_set hb).1, F, ?_, hs⟩
    · simp [Builtin.delete_, run_underlying ht, MapKept.run_getObj_map hb, MapKept.run_checkKey hk (show IsKey (.int .i64) (.int .i64 i) by simp [IsKey]), MapKept.run_findKey hk h1, MapKept.run_setObj_map _ hb, Result.andThen]
    · intro c
      rw [hf c]
      show _ = if c = i then none else f c
      by_cases g : c = i
      · subst g; rw [← hf c, findAt_none F c h2]; simp
      · rw [if_neg g]
  · have hlt : j < es.size := by simpa using (List.getElem?_eq_some_iff.1 h2).1
    have eer : (es.eraseIdxIfInBounds j).toList = es.toList.eraseIdx j := by
      unfold Array.eraseIdxIfInBounds
      rw [dif_pos hlt, Array.toList_eraseIdx]
    refine ⟨.map (es.eraseIdxIfInBounds j) clock, ?_, _, _, (heap_set hb).1, ?_, ?_, stamped_erase hs j⟩
    · simp [Builtin.delete_, run_underlying ht, MapKept.run_getObj_map hb, MapKept.run_checkKey hk (show IsKey (.int .i64) (.int .i64 i) by simp [IsKey]), MapKept.run_findKey hk h1, MapKept.run_setObj_map _ hb, Result.andThen]
    · rw [eer]; exact F.erase j
    · intro c; rw [eer, findAt_erase F i h2 h3, hf c]
end BMap
theorem findAt_iff {l : List MapEntry} (h : Entries l) (i : Int) : (findAt l i).isSome = true ↔ ∃ e ∈ l, e.key = .int .i64 i := by
  constructor
  · intro hs
    refine Classical.byContradiction fun hn => ?_
    rw [findAt_none h i fun e he hk => hn ⟨e, he, hk⟩] at hs
    cases hs
  · rintro ⟨e, he, hk⟩
    obtain ⟨j, hj, e1⟩ := List.getElem_of_mem he
    rw [findAt_some h i (j := j) (e := e) (by rw [List.getElem?_eq_getElem hj, e1]) hk]
    rfl
/-- Whole numbers below n, none twice, are n at most. -/
theorem few_below : ∀ (n : Nat) (l : List Int), l.Nodup → (∀ x ∈ l, 0 ≤ x ∧ x < n) → l.length ≤ n
  | 0, [], _, _ => Nat.le_refl _
  | 0, x :: l, _, h => by have := h x (by simp); omega
  | n + 1, l, hn, h => by
    by_cases hx : (n : Int) ∈ l
    · have h1 := few_below n (l.erase (n : Int)) (hn.erase _) fun x hx' => by
        have h2 := (List.Nodup.mem_erase_iff hn).1 hx'
        have h3 := h x h2.2
        have h4 := h2.1
        omega
      rw [List.length_erase_of_mem hx] at h1
      omega
    · have h1 := few_below n l hn fun x hx' => by
        have h3 := h x hx'
        have h4 : x ≠ n := fun e => hx (e ▸ hx')
        omega
      omega
end Go.Proofs.Ytgjkhjlobfblcaa
