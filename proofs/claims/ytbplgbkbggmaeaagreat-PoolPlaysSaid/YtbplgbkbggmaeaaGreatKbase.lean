/- Texts that belong together, joined: Base, Map, Foot, Dk, Bytes, Clone, Zero, Lists, Be, Crc, Num4, Numb, Uint. -/
import Derived.WalkKit
import Derived.WalkLawsBesides
import Derived.Lib.Hide
import Derived.Laws.CopyOwn
import Derived.Laws.BytesArg
import Derived.Deep.MidRow
import Derived.Deep.DeepCutAuto
import Derived.StillTailTactics
import Derived.BigQuiet
import Derived.Deep.QuietTactic
import Derived.MapKept
import Derived.Maps.OwnSet
import Derived.Shelf.SlMaps.Clone
import Derived.Laws.OwnMore
import Derived.Deep.AppendLies
import Derived.Maps.AppendAt
import Derived.Test.YtbplgbkbggmaeaaGreatRows
import Derived.Handy
import Derived.Lib.BufferWrite
import Derived.Lib.UnsafeStr
import Derived.Deep.Slices
import Derived.IntWalk
namespace Go.Proofs.YtbplgbkbggmaeaaGreat
open Go.RowKit
theorem sA {α : Type _} (l : List α) (i : Nat) (a : α) : l.toArray.setIfInBounds i a = (l.set i a).toArray := List.setIfInBounds_toArray l i a
theorem sB {α : Type _} (xs : List α) (x y : α) : (x :: xs).set 0 y = y :: xs := rfl
theorem sC {α : Type _} (xs : List α) (x y : α) (n : Nat) : (x :: xs).set (n + 1) y = x :: xs.set n y := rfl
def Blk (w : World) (g : Nat) (t : TypeId) (cs : Array Value) : Prop := w.heap[g]? = some (.cells cs t (0, 0))
namespace Blk
variable {w w' : World} {g : Nat} {t : TypeId} {cs : Array Value}
theorem lt (h : Blk w g t cs) : g < w.heap.size := (Array.getElem?_eq_some_iff.1 h).1
theorem cell (h : Blk w g t cs) (i : Nat) : w.cell? ⟨g, i, none⟩ = cs[i]? := cell_of_row w g i cs t (0, 0) h
theorem cellAt (h : Blk w g t cs) {i : Nat} (hi : i < cs.size) : w.cell? ⟨g, i, none⟩ = some cs[i] := by rw [h.cell, Array.getElem?_eq_getElem hi]
theorem frozen (h : Blk w g t cs) (i : Nat) : w.frozen? ⟨g, i, none⟩ = false := frozen_of_row w g i cs t h
theorem set (h : Blk w g t cs) (i : Nat) (v : Value) : Blk (w.setCell ⟨g, i, none⟩ v) g t (cs.setIfInBounds i v) := heap_setCell_same w g i cs t v h
theorem setRow (h : Blk w g t cs) (cs' : Array Value) : Blk (w.setRow g cs') g t cs' := setRow_heap w g cs cs' t (0, 0) h
theorem keep {B : Nat} (h : Blk w g t cs) (hb : Below B w w') (hg : g < B) : Blk w' g t cs := (hb.block g hg).trans h
theorem far (h : Blk w g t cs) {p : Addr} (hp : g ≠ p.block) (v : Value) : Blk (w.setCell p v) g t cs := (heap_setCell_other w p g v hp).trans h
theorem farRow (h : Blk w g t cs) {k : Nat} (hp : g ≠ k) (cs' : Array Value) : Blk (w.setRow k cs') g t cs := (setRow_other w k g cs' hp).trans h
theorem new (w : World) (t : TypeId) (cs : Array Value) : Blk (w.alloc (.cells cs t)) w.heap.size t cs := heap_alloc_new w _
theorem alloc (h : Blk w g t cs) (o : Obj) : Blk (w.alloc o) g t cs := (Below.heap_alloc w o g h.lt).trans h
theorem drew (h : Blk w g t cs) : Blk w.drew g t cs := h
theorem drewN (h : Blk w g t cs) (n : Nat) : Blk (w.drewN n) g t cs := h
end Blk
theorem belowN {B : Nat} {a w : World} (h : Below B a w) (n : Nat) : Below B a (w.drewN n) := ⟨h.os, h.tape, h.output, h.size, h.block⟩
theorem below2 {a b c : World} (h : Below a.heap.size a b) (k : Below b.heap.size b c) : Below a.heap.size a c := h.trans (k.mono h.size)
theorem size_bytes (s : ByteArray) : s.data.toList.length = s.size := rfl
theorem str_ext {s t : ByteArray} (h : s.data.toList = t.data.toList) : s = t := by
 cases s; cases t; simp at h; simpa using h
theorem results_row_tmp {P : Program} {fn : Func} {p u : Tmp} {ty : TypeId} (h : fn.results = #[.cell p ty, .tmp u]) (tmps : Array Value) (w : World) (g : Nat) (t : TypeId) (cs : Array Value) (d : TypeDesc)
   (hp : tmps.getD p undef = .pointer (some ⟨g, 0, none⟩)) (hg : Blk w g t cs)
   (hu : P.underlying ty = some d) (hd : (match d with | .struct _ | .array _ _ => true | _ => false) = true) (hi : (P.info? ty).map (·.size) = some cs.size) :
   (results fn tmps).run P w = .ok (.tuple #[.agg cs, tmps.getD u undef]) w := by
 rw [results_cell_tmp h, hp]
 simp [asAddr, run_loadVar_row w g t ty cs (0, 0) d hg hu hd hi]
theorem slice_str {P : Program} (t : TypeId) (ht : P.underlying t = some .string) (s : ByteArray) (lo hi : Nat) (k k' : IntKind) (a b : Int) (ha : a = lo) (hb : b = hi) (h1 : lo ≤ hi) (h2 : hi ≤ s.size) (w : World) :
   (Instr.slice t (.string s) (some (.int k a)) (some (.int k' b)) none).run P w = .ok (.string (s.extract lo hi)) w := by
 subst ha hb
 have := run_slice_string (P := P) w t s k k' lo hi ht (by omega) (by omega) (by omega)
 simpa using this
theorem slice_from {P : Program} (t : TypeId) (ht : P.underlying t = some .string) (s : ByteArray) (lo : Nat) (k : IntKind) (a : Int) (ha : a = lo) (h1 : lo ≤ s.size) (w : World) :
   (Instr.slice t (.string s) (some (.int k a)) none none).run P w = .ok (.string (s.extract lo s.size)) w := by
 subst ha
 have := run_slice_string_l (P := P) (w := w) (t := t) s ht k lo (by omega) (by omega)
 simpa using this
end Go.Proofs.YtbplgbkbggmaeaaGreat

namespace Go.Proofs.YtbplgbkbggmaeaaGreat
open Go.RowKit Go.MapKept
def findAt (l : List MapEntry) (i : Int) : Option Value := (l.find? fun e => match e.key with | .int .i64 k => k == i | _ => false).map (·.val)
structure Entries (l : List MapEntry) : Prop where
 keys : ∀ e ∈ l, ∃ i, e.key = .int .i64 i
 apart : l.Pairwise fun a b => a.key ≠ b.key
def IsMap (w : World) (b : Nat) (f : Int → Option Value) : Prop :=
 ∃ es clock, w.heap[b]? = some (.map es clock) ∧ Entries es.toList ∧ ∀ i, findAt es.toList i = f i
theorem findAt_cons (e : MapEntry) (l : List MapEntry) (k i : Int) (h : e.key = .int .i64 k) : findAt (e :: l) i = if k = i then some e.val else findAt l i := by
 unfold findAt
 rw [List.find?_cons]
 simp only [h]
 by_cases g : k = i
 · simp [g]
 · have : (k == i) = false := by simpa using g
   simp [this, g]
theorem Entries.tail {e : MapEntry} {l : List MapEntry} (h : Entries (e :: l)) : Entries l := ⟨fun x hx => h.keys x (.tail _ hx), (List.pairwise_cons.1 h.apart).2⟩
theorem findAt_none {l : List MapEntry} (h : Entries l) (i : Int) (hn : ∀ e ∈ l, e.key ≠ .int .i64 i) : findAt l i = none := by
 induction l with
 | nil => rfl
 | cons e l ih =>
   obtain ⟨k, hk⟩ := h.keys e (.head _)
   rw [findAt_cons e l k i hk, if_neg (fun g => hn e (.head _) (by rw [hk, g])), ih h.tail fun x hx => hn x (.tail _ hx)]
theorem findAt_some {l : List MapEntry} (h : Entries l) (i : Int) {j : Nat} {e : MapEntry} (hj : l[j]? = some e) (hk : e.key = .int .i64 i) : findAt l i = some e.val := by
 induction l generalizing j with
 | nil => simp at hj
 | cons x l ih =>
   obtain ⟨k, hx⟩ := h.keys x (.head _)
   rw [findAt_cons x l k i hx]
   cases j with
   | zero =>
     simp only [List.getElem?_cons_zero, Option.some.injEq] at hj
     subst hj
     rw [hx] at hk
     simp only [Value.int.injEq, true_and] at hk
     rw [if_pos hk]
   | succ j =>
     simp only [List.getElem?_cons_succ] at hj
     have hm : e ∈ l := List.mem_of_getElem? hj
     have hne := (List.pairwise_cons.1 h.apart).1 e hm
     rw [if_neg (fun g => hne (by rw [hx, hk, g])), ih h.tail hj]
theorem findAt_append (l r : List MapEntry) (i : Int) : findAt (l ++ r) i = (findAt l i).or (findAt r i) := by
 unfold findAt
 rw [List.find?_append]
 cases List.find? _ l <;> simp
theorem findAt_set {l : List MapEntry} (h : Entries l) (i : Int) (v : Value) {j : Nat} {e : MapEntry} (hj : l[j]? = some e) (hk : e.key = .int .i64 i) (c : Int) :
   findAt (l.set j { e with key := .int .i64 i, val := v }) c = if c = i then some v else findAt l c := by
 induction l generalizing j with
 | nil => simp at hj
 | cons x l ih =>
   obtain ⟨k, hx⟩ := h.keys x (.head _)
   cases j with
   | zero =>
     simp only [List.getElem?_cons_zero, Option.some.injEq] at hj
     subst hj
     rw [hx] at hk
     simp only [Value.int.injEq, true_and] at hk
     subst hk
     rw [List.set_cons_zero, findAt_cons _ _ k c rfl, findAt_cons x l k c hx]
     by_cases g : k = c
     · subst g; simp
     · rw [if_neg g, if_neg g, if_neg (Ne.symm g)]
   | succ j =>
     simp only [List.getElem?_cons_succ] at hj
     rw [List.set_cons_succ, findAt_cons _ _ k c hx, findAt_cons x l k c hx, ih h.tail hj]
     have hne := (List.pairwise_cons.1 h.apart).1 e (List.mem_of_getElem? hj)
     by_cases g : k = c
     · subst g
       rw [if_pos rfl, if_pos rfl, if_neg (fun g => hne (by rw [hx, hk, g]))]
     · rw [if_neg g, if_neg g]
theorem findAt_erase {l : List MapEntry} (h : Entries l) (i : Int) {j : Nat} {e : MapEntry} (hj : l[j]? = some e) (hk : e.key = .int .i64 i) (c : Int) :
   findAt (l.eraseIdx j) c = if c = i then none else findAt l c := by
 induction l generalizing j with
 | nil => simp at hj
 | cons x l ih =>
   obtain ⟨k, hx⟩ := h.keys x (.head _)
   cases j with
   | zero =>
     simp only [List.getElem?_cons_zero, Option.some.injEq] at hj
     subst hj
     rw [hx] at hk
     simp only [Value.int.injEq, true_and] at hk
     subst hk
     rw [List.eraseIdx_cons_zero, findAt_cons x l k c hx]
     by_cases g : k = c
     · subst g
       rw [if_pos rfl]
       exact findAt_none h.tail _ fun y hy e => (List.pairwise_cons.1 h.apart).1 y hy (by rw [hx, e])
     · rw [if_neg g, if_neg (Ne.symm g)]
   | succ j =>
     simp only [List.getElem?_cons_succ] at hj
     rw [List.eraseIdx_cons_succ, findAt_cons _ _ k c hx, findAt_cons x l k c hx, ih h.tail hj]
     have hne := (List.pairwise_cons.1 h.apart).1 e (List.mem_of_getElem? hj)
     by_cases g : k = c
     · subst g
       rw [if_pos rfl, if_pos rfl, if_neg (fun g => hne (by rw [hx, hk, g]))]
     · rw [if_neg g, if_neg g]
theorem Entries.isKey {l : List MapEntry} (h : Entries l) : ∀ x ∈ l, IsKey (.int .i64) x.key := fun x hx => by
 obtain ⟨i, hi⟩ := h.keys x hx
 rw [hi]; simp [IsKey]
theorem Entries.push {l : List MapEntry} (h : Entries l) (i : Int) (v : Value) (c : Nat) (hn : ∀ e ∈ l, e.key ≠ .int .i64 i) : Entries (l ++ [{ key := .int .i64 i, val := v, born := c }]) :=
 ⟨fun e he => by
   rcases List.mem_append.1 he with he | he
   · exact h.keys e he
   · simp at he; subst he; exact ⟨i, rfl⟩,
  List.pairwise_append.2 ⟨h.apart, by simp, fun a ha b hb => by simp at hb; subst hb; exact hn a ha⟩⟩
theorem Entries.set {l : List MapEntry} (h : Entries l) (i : Int) (v : Value) {j : Nat} {e : MapEntry} (hj : l[j]? = some e) (hk : e.key = .int .i64 i) : Entries (l.set j { e with key := .int .i64 i, val := v }) := by
 have hm : (l.set j { e with key := .int .i64 i, val := v }).map (·.key) = l.map (·.key) := by
   rw [List.map_set]
   apply List.ext_getElem?
   intro n
   rw [List.getElem?_set]
   by_cases g : j = n
   · subst g
     rw [if_pos rfl, List.getElem?_map, hj]
     simp [List.getElem?_eq_some_iff] at hj
     obtain ⟨hlt, _⟩ := hj
     simp [hlt, hk]
   · rw [if_neg g]
 refine ⟨fun x hx => ?_, ?_⟩
 · have : x.key ∈ l.map (·.key) := hm ▸ List.mem_map.2 ⟨x, hx, rfl⟩
   obtain ⟨y, hy, e⟩ := List.mem_map.1 this
   rw [← e]; exact h.keys y hy
 · have : (l.map (·.key)).Pairwise (· ≠ ·) := List.pairwise_map.2 h.apart
   rw [← hm] at this
   exact List.pairwise_map.1 this
theorem Entries.erase {l : List MapEntry} (h : Entries l) (j : Nat) : Entries (l.eraseIdx j) :=
 ⟨fun x hx => h.keys x ((List.eraseIdx_sublist l j).subset hx), h.apart.sublist (List.eraseIdx_sublist l j)⟩
theorem Entries.none : Entries [] := ⟨fun e he => by simp at he, List.Pairwise.nil⟩
namespace IsMap
variable {P : Program} {w w' : World} {b : Nat} {f : Int → Option Value}
theorem lt (h : IsMap w b f) : b < w.heap.size := by obtain ⟨es, c, hb, _⟩ := h; exact (Array.getElem?_eq_some_iff.1 hb).1
theorem keep (h : IsMap w b f) (e : w'.heap[b]? = w.heap[b]?) : IsMap w' b f := by obtain ⟨es, c, hb, h⟩ := h; exact ⟨es, c, e.trans hb, h⟩
theorem drew (h : IsMap w b f) : IsMap w.drew b f := h.keep rfl
theorem congr {g : Int → Option Value} (h : IsMap w b f) (e : ∀ i, f i = g i) : IsMap w b g := by obtain ⟨es, c, hb, h, k⟩ := h; exact ⟨es, c, hb, h, fun i => (k i).trans (e i)⟩
theorem made (w : World) : IsMap (w.alloc (.map #[] 0)) w.heap.size fun _ => none := ⟨#[], 0, (heap_alloc w _).1, .none, fun _ => rfl⟩
theorem cells {g : Nat} {t : TypeId} {cs : Array Value} (h : IsMap w b f) (k : Blk w g t cs) : g ≠ b := by
 rintro rfl
 obtain ⟨es, c, hb, _⟩ := h
 unfold Blk at k
 rw [hb] at k
 cases k
variable {t kt et : TypeId} (ht : P.underlying t = some (.map kt et)) (hk : P.underlying kt = some (.int .i64))
include ht hk
theorem look (h : IsMap w b f) (i : Int) {z : Value} (hz : (zeroValue et).run P w = .ok z w) :
   (Instr.lookup t (.map (some b)) (.int .i64 i) true).run P w = .ok (.tuple #[(f i).getD z, .bool (f i).isSome]) w := by
 obtain ⟨es, clock, hb, F, hf⟩ := h
 rcases findNow_spec (d := .int .i64) (k := .int .i64 i) (by simp [IsKey]) es.toList 0 F.isKey with ⟨h1, h2⟩ | ⟨j, e, h1, h2, h3⟩
 · rw [← hf i, findAt_none F i h2]
   simp [Instr.lookup, run_underlying ht, MapKept.run_getObj_map hb, MapKept.run_checkKey hk (show IsKey (.int .i64) (.int .i64 i) by simp [IsKey]), MapKept.run_findKey hk h1, Result.andThen, hz]
 · rw [← hf i, findAt_some F i h2 h3]
   simp [Instr.lookup, run_underlying ht, MapKept.run_getObj_map hb, MapKept.run_checkKey hk (show IsKey (.int .i64) (.int .i64 i) by simp [IsKey]), MapKept.run_findKey hk h1, Result.andThen]
theorem put (h : IsMap w b f) (i : Int) (v : Value) :
   ∃ o, (Instr.mapUpdate t (.map (some b)) (.int .i64 i) v).run P w = .ok () { w with heap := w.heap.setIfInBounds b o } ∧ IsMap { w with heap := w.heap.setIfInBounds b o } b fun c => if c = i then some v else f c := by
 obtain ⟨es, clock, hb, F, hf⟩ := h
 rcases findNow_spec (d := .int .i64) (k := .int .i64 i) (by simp [IsKey]) es.toList 0 F.isKey with ⟨h1, h2⟩ | ⟨j, e, h1, h2, h3⟩
 · refine ⟨.map (es.push { key := .int .i64 i, val := v, born := clock }) (clock + 1), ?_, _, _, (heap_set hb).1, ?_, ?_⟩
   · simp [Instr.mapUpdate, run_underlying ht, MapKept.run_getObj_map hb, MapKept.run_checkKey hk (show IsKey (.int .i64) (.int .i64 i) by simp [IsKey]), MapKept.run_findKey hk h1, MapKept.run_setObj_map _ hb, Result.andThen]
   · rw [Array.toList_push]; exact F.push i v clock h2
   · intro c
     rw [Array.toList_push, findAt_append, hf c, findAt_cons _ _ i c rfl]
     by_cases g : c = i
     · subst g
       rw [← hf c, findAt_none F c h2]
       simp
     · show _ = if c = i then some v else f c
       rw [if_neg g, if_neg (Ne.symm g)]
       cases f c <;> rfl
 · have hj : es[j]? = some e := by simpa using h2
   have eset : (es.modify j fun e => { e with key := .int .i64 i, val := v }).toList = es.toList.set j { e with key := .int .i64 i, val := v } := by
     apply List.ext_getElem?
     intro n
     rw [List.getElem?_set, Array.getElem?_toList, Array.getElem?_modify]
     by_cases g : j = n
     · subst g
       have hlt : j < es.toList.length := (List.getElem?_eq_some_iff.1 h2).1
       rw [if_pos rfl, if_pos rfl, hj]
       simp only [Option.map_some]
       rw [if_pos hlt]
     · rw [if_neg g, if_neg g, Array.getElem?_toList]
   refine ⟨.map (es.modify j fun e => { e with key := .int .i64 i, val := v }) clock, ?_, _, _, (heap_set hb).1, ?_, ?_⟩
   · simp [Instr.mapUpdate, run_underlying ht, MapKept.run_getObj_map hb, MapKept.run_checkKey hk (show IsKey (.int .i64) (.int .i64 i) by simp [IsKey]), MapKept.run_findKey hk h1, hj, h3, run_keyThatStays (show IsKey (.int .i64) (.int .i64 i) by simp [IsKey]), MapKept.run_setObj_map _ hb, Result.andThen]
   · rw [eset]; exact F.set i v h2 h3
   · intro c
     rw [eset, findAt_set F i v h2 h3, hf c]
omit hk in
theorem clear (h : IsMap w b f) (ty : TypeId) :
   ∃ o, (Builtin.clear_ #[t] ty #[.map (some b)]).run P w = .ok (.tuple #[]) { w with heap := w.heap.setIfInBounds b o } ∧ IsMap { w with heap := w.heap.setIfInBounds b o } b fun _ => none := by
 obtain ⟨es, clock, hb, F, hf⟩ := h
 exact ⟨.map #[] clock, by simp [Builtin.clear_, run_underlying ht, MapKept.run_getObj_map hb, MapKept.run_setObj_map _ hb, Result.andThen], _, _, (heap_set hb).1, .none, fun _ => rfl⟩
end IsMap
end Go.Proofs.YtbplgbkbggmaeaaGreat

namespace Go.Proofs.YtbplgbkbggmaeaaGreat
open Go.RowKit
abbrev Foot := Nat → Prop
structure Step (F F' : Foot) (w w' : World) : Prop where
 os : w'.os = w.os
 tape : w'.tape = w.tape
 output : w'.output = w.output
 size : w.heap.size ≤ w'.heap.size
 block : ∀ b, b < w.heap.size → ¬ F b → w'.heap[b]? = w.heap[b]?
 foot : ∀ b, F' b → F b ∨ w.heap.size ≤ b
namespace Step
variable {F F' F'' : Foot} {w w' w'' : World}
theorem refl (F : Foot) (w : World) : Step F F w w := ⟨rfl, rfl, rfl, Nat.le_refl _, fun _ _ _ => rfl, fun _ h => .inl h⟩
theorem trans (h : Step F F' w w') (k : Step F' F'' w' w'') : Step F F'' w w'' :=
 ⟨k.os.trans h.os, k.tape.trans h.tape, k.output.trans h.output, Nat.le_trans h.size k.size,
  fun b hb hf => (k.block b (Nat.lt_of_lt_of_le hb h.size) fun g => (h.foot b g).elim hf (by omega)).trans (h.block b hb hf),
  fun b hb => (k.foot b hb).elim (fun g => h.foot b g) (fun g => .inr (Nat.le_trans h.size g))⟩
theorem ofBelow (h : Below w.heap.size w w') : Step F F w w' := ⟨h.os, h.tape, h.output, h.size, fun b hb _ => h.block b hb, fun _ g => .inl g⟩
theorem belowB {B : Nat} {a : World} (h : Step F F' w w') (hF : ∀ b, F b → B ≤ b) (k : Below B a w) (hB : B ≤ w.heap.size) : Below B a w' :=
 ⟨h.os.trans k.os, h.tape.trans k.tape, h.output.trans k.output, Nat.le_trans k.size h.size, fun b hb => (h.block b (by omega) fun g => by have := hF b g; omega).trans (k.block b hb)⟩
theorem from_ {B : Nat} (h : Step F F' w w') (hF : ∀ b, F b → B ≤ b) (hB : B ≤ w.heap.size) : ∀ b, F' b → B ≤ b := fun b hb => (h.foot b hb).elim (hF b) (fun g => Nat.le_trans hB g)
theorem drew (h : Step F F' w w') : Step F F' w w'.drew := ⟨h.os, h.tape, h.output, h.size, h.block, h.foot⟩
theorem more (h : Step F F' w w') (k : Below w'.heap.size w' w'') : Step F F' w w'' := h.trans (.ofBelow k)
theorem alloc (h : Step F F' w w') (o : Obj) : Step F F' w (w'.alloc o) := h.more ((Below.refl _ _).alloc (Nat.le_refl _) _)
theorem set (h : Step F F' w w') {p : Addr} (hp : F' p.block) (v : Value) : Step F F' w (w'.setCell p v) :=
 h.trans ⟨rfl, rfl, rfl, by simp [World.setCell], fun b _ hf => Below.heap_setCell w' p v b (fun e => hf (e ▸ hp)), fun _ g => .inl g⟩
theorem setObj (h : Step F F' w w') {b : Nat} (hb : F' b) (o : Obj) : Step F F' w { w' with heap := w'.heap.setIfInBounds b o } :=
 h.trans ⟨rfl, rfl, rfl, by simp, fun i _ hf => (show (w'.heap.setIfInBounds b o)[i]? = _ by rw [Array.getElem?_setIfInBounds, if_neg (fun e : b = i => hf (e ▸ hb))]), fun _ g => .inl g⟩
theorem grown (h : Step F F' w w') {row : Option Nat} (hg : w'.grownBy w'' row) (hr : ∀ b, row = some b → F' b) : Step F F' w w'' :=
 h.trans ⟨hg.os, hg.tape, hg.output, hg.size, fun b hb hf => hg.block b hb fun e => hf (hr b e.symm), fun _ g => .inl g⟩
theorem widen (h : Step F F' w w') : Step F (fun b => F' b ∨ (w.heap.size ≤ b ∧ b < w'.heap.size)) w w' :=
 ⟨h.os, h.tape, h.output, h.size, h.block, fun b g => g.elim (h.foot b) fun g => .inr g.1⟩
end Step
section
variable {w w' : World} {base size n : Nat} {e : TypeId} {v : Value} {xs : List Value} {F : Foot}
theorem own_keep (h : w.ownsRow base e size v n xs) (hk : ∀ b, v.ownBlock = some b → w'.heap[b]? = w.heap[b]?) : w'.ownsRow base e size v n xs := by
 obtain ⟨hl, h | ⟨g, cap, cur, rfl, hb, hg, h1, h2, h3, h4⟩⟩ := h
 · exact ⟨hl, .inl h⟩
 · exact ⟨hl, .inr ⟨g, cap, cur, rfl, hb, (hk g rfl).trans hg, h1, h2, h3, h4⟩⟩
theorem own_below (h : w.ownsRow base e size v n xs) (hb : Below w.heap.size w w') : w'.ownsRow base e size v n xs := own_keep h fun b hv => hb.block b (h.lt b hv).2
theorem own_apart {e' size' n' : Nat} {base' : Nat} {v' : Value} {xs' : List Value} (h : w.ownsRow base e size v n xs) (h' : w.ownsRow base' e' size' v' n' xs') (hne : e ≠ e') {b : Nat} (hv : v.ownBlock = some b) : v'.ownBlock ≠ some b := by
 intro hv'
 obtain ⟨_, ⟨rfl, _⟩ | ⟨g, cap, cur, rfl, _, hg, _⟩⟩ := h
 · simp [Value.ownBlock] at hv
 obtain ⟨_, ⟨rfl, _⟩ | ⟨g', cap', cur', rfl, _, hg', _⟩⟩ := h'
 · simp [Value.ownBlock] at hv'
 simp only [Value.ownBlock, Option.some.injEq] at hv hv'
 subst hv; subst hv'
 rw [hg] at hg'
 simp only [Option.some.injEq, Obj.cells.injEq] at hg'
 exact hne hg'.2.1
theorem own_blk {t : TypeId} {g : Nat} {cs : Array Value} (h : w.ownsRow base e size v n xs) (hb : Blk w g t cs) (hne : e ≠ t) : v.ownBlock ≠ some g := by
 intro hv
 obtain ⟨_, ⟨rfl, _⟩ | ⟨g', cap, cur, rfl, _, hg, _⟩⟩ := h
 · simp [Value.ownBlock] at hv
 simp only [Value.ownBlock, Option.some.injEq] at hv
 subst hv
 unfold Blk at hb
 rw [hg] at hb
 simp only [Option.some.injEq, Obj.cells.injEq] at hb
 exact hne hb.2.1
theorem own_map {f : Int → Option Value} {g : Nat} (h : w.ownsRow base e size v n xs) (hb : IsMap w g f) : v.ownBlock ≠ some g := by
 intro hv
 obtain ⟨_, ⟨rfl, _⟩ | ⟨g', cap, cur, rfl, _, hg, _⟩⟩ := h
 · simp [Value.ownBlock] at hv
 simp only [Value.ownBlock, Option.some.injEq] at hv
 subst hv
 obtain ⟨es, c, hb, _⟩ := hb
 rw [hg] at hb
 cases hb
theorem own_form (h : w.ownsRow base e size v n xs) (hn : 0 < n) : ∃ g cap, v = .slice (some ⟨g, 0, none⟩) n cap ∧ n ≤ cap ∧ cap ≤ maxLen := by
 obtain ⟨_, ⟨rfl, h0⟩ | ⟨g, cap, cur, rfl, _, _, h1, h2, _⟩⟩ := h
 · omega
 · exact ⟨g, cap, rfl, h1, h2⟩
theorem own_any (h : w.ownsRow base e size v n xs) : (v = .slice none 0 0 ∧ n = 0 ∧ xs = []) ∨ ∃ g cap, v = .slice (some ⟨g, 0, none⟩) n cap ∧ n ≤ cap ∧ cap ≤ maxLen := by
 obtain ⟨hl, ⟨rfl, rfl⟩ | ⟨g, cap, cur, rfl, _, _, h1, h2, _⟩⟩ := h
 · exact .inl ⟨rfl, rfl, List.eq_nil_of_length_eq_zero (by omega)⟩
 · exact .inr ⟨g, cap, rfl, h1, h2⟩
theorem own_slice (h : w.ownsRow base e size v n xs) : ∃ ra rc, v = .slice ra n rc := by
 rcases own_any h with ⟨rfl, rfl, _⟩ | ⟨q, c, rfl, _⟩
 · exact ⟨none, 0, rfl⟩
 · exact ⟨_, _, rfl⟩
end
end Go.Proofs.YtbplgbkbggmaeaaGreat

namespace Go.Proofs.YtbplgbkbggmaeaaGreat
theorem snoc_ind {α : Type} {p : List α → Prop} (h0 : p []) (h1 : ∀ l x, p l → p (l ++ [x])) (l : List α) : p l := by
 have h : ∀ r : List α, p r.reverse := fun r => by
   induction r with
   | nil => exact h0
   | cons x r ih => rw [List.reverse_cons]; exact h1 _ _ ih
 have := h l.reverse
 rwa [List.reverse_reverse] at this
def zero128 : ByteArray := ⟨(List.replicate 128 0).toArray⟩
theorem zero128_size : zero128.size = 128 := by simp [zero128, ByteArray.size]
structure Dk where
 safe : List ByteArray
 waits : List (Nat × ByteArray)
 gone : Bool
 fuse : Option Nat
def lastOf (l : List (Nat × ByteArray)) (i : Int) : Option ByteArray := l.foldl (fun o x => if (x.1 : Int) = i then some x.2 else o) none
theorem lastOf_snoc (l : List (Nat × ByteArray)) (x : Nat × ByteArray) (i : Int) : lastOf (l ++ [x]) i = if (x.1 : Int) = i then some x.2 else lastOf l i := by simp [lastOf]
theorem lastOf_nil (i : Int) : lastOf [] i = none := rfl
theorem lastOf_mem {l : List (Nat × ByteArray)} {i : Int} {s : ByteArray} (h : lastOf l i = some s) : ∃ x ∈ l, (x.1 : Int) = i ∧ x.2 = s := by
 revert h
 refine snoc_ind (p := fun l => lastOf l i = some s → ∃ x ∈ l, (x.1 : Int) = i ∧ x.2 = s) (fun h => by cases h) ?_ l
 · intro l x ih h
   rw [lastOf_snoc] at h
   by_cases g : (x.1 : Int) = i
   · rw [if_pos g] at h
     exact ⟨x, by simp, g, Option.some.inj h⟩
   · rw [if_neg g] at h
     obtain ⟨y, hy, k⟩ := ih h
     exact ⟨y, by simp [hy], k⟩
def fate (p : List UInt8) (j : Nat) : Nat := if p.length = 0 then 0 else (p.getD (j % p.length) 0).toNat % 3
def settleOne (f : Nat) (x : Nat × ByteArray) (s : List ByteArray) : List ByteArray := if f = 1 then s.set x.1 x.2 else if f = 2 then s.set x.1 zero128 else s
def settleTo (f : Nat → Nat) (l : List (Nat × ByteArray)) (s : List ByteArray) : Nat → List ByteArray
 | 0 => s
 | k + 1 => match l[k]? with
   | some x => settleOne (f k) x (settleTo f l s k)
   | none => settleTo f l s k
theorem settleOne_len (f : Nat) (x : Nat × ByteArray) (s : List ByteArray) : (settleOne f x s).length = s.length := by unfold settleOne; split <;> (try split) <;> simp
theorem settleTo_len (f : Nat → Nat) (l : List (Nat × ByteArray)) (s : List ByteArray) : ∀ k, (settleTo f l s k).length = s.length
 | 0 => rfl
 | k + 1 => by
   unfold settleTo
   split
   · rw [settleOne_len, settleTo_len f l s k]
   · exact settleTo_len f l s k
theorem settleTo_succ (f : Nat → Nat) (l : List (Nat × ByteArray)) (s : List ByteArray) (k : Nat) (h : k < l.length) : settleTo f l s (k + 1) = settleOne (f k) l[k] (settleTo f l s k) := by
 rw [settleTo, List.getElem?_eq_getElem h]
namespace Dk
def new (n : Nat) : Dk := ⟨List.replicate n zero128, [], false, none⟩
def bears (d : Dk) : Bool := !(d.gone || d.fuse == some 0)
def burn (d : Dk) : Dk := if d.bears then { d with fuse := d.fuse.map (· - 1) } else { d with gone := true }
def has (d : Dk) (i : Int) : Prop := 0 ≤ i ∧ i < d.safe.length
instance (d : Dk) (i : Int) : Decidable (d.has i) := inferInstanceAs (Decidable (_ ∧ _))
def writeE (d : Dk) (i : Int) (s : ByteArray) : Nat := if d.has i then if s.size = 128 then if d.bears then 0 else 4 else 1 else 2
def write (d : Dk) (i : Int) (s : ByteArray) : Dk := if d.has i then if s.size = 128 then if d.bears then { d.burn with waits := d.waits ++ [(i.toNat, s)] } else d.burn else d else d
def settled (d : Dk) (f : Nat → Nat) : List ByteArray := settleTo f d.waits d.safe d.waits.length
def syncE (d : Dk) : Nat := if d.bears then 0 else 4
def sync (d : Dk) : Dk := if d.bears then { d.burn with safe := d.settled fun _ => 1, waits := [] } else d.burn
def crash (d : Dk) (p : List UInt8) : Dk := ⟨d.settled (fate p), [], false, none⟩
def arm (d : Dk) (k : Int) : Dk := { d with fuse := if 0 ≤ k then some k.toNat else none }
def reachE (d : Dk) (i : Int) : Nat := if d.gone then 4 else if d.has i then 0 else 2
def at_ (d : Dk) (i : Int) : ByteArray := (lastOf d.waits i).getD (d.safe.getD i.toNat zero128)
def read (d : Dk) (i : Int) : ByteArray := if d.reachE i = 0 then d.at_ i else ⟨#[]⟩
structure Ok (d : Dk) : Prop where
 pos : 0 < d.safe.length
 le : d.safe.length ≤ 512
 sect : ∀ s ∈ d.safe, s.size = 128
 wait : ∀ x ∈ d.waits, x.1 < d.safe.length ∧ x.2.size = 128
 fuse : ∀ f, d.fuse = some f → f < 9223372036854775808
theorem Ok.new {n : Nat} (h0 : 0 < n) (h1 : n ≤ 512) : (Dk.new n).Ok :=
 ⟨by simpa [Dk.new] using h0, by simpa [Dk.new] using h1, fun s hs => by rw [List.eq_of_mem_replicate hs]; exact zero128_size, fun x hx => by simp [Dk.new] at hx, fun f hf => by cases hf⟩
theorem Ok.burn {d : Dk} (h : d.Ok) : d.burn.Ok := by
 unfold Dk.burn
 split
 · refine ⟨h.pos, h.le, h.sect, h.wait, fun f hf => ?_⟩
   cases hd : d.fuse with
   | none => rw [hd] at hf; cases hf
   | some g =>
     rw [hd] at hf
     simp only [Option.map_some, Option.some.injEq] at hf
     have := h.fuse g hd
     omega
 · exact ⟨h.pos, h.le, h.sect, h.wait, h.fuse⟩
theorem burn_safe (d : Dk) : d.burn.safe = d.safe := by unfold Dk.burn; split <;> rfl
theorem burn_waits (d : Dk) : d.burn.waits = d.waits := by unfold Dk.burn; split <;> rfl
theorem Ok.write {d : Dk} (h : d.Ok) (i : Int) (s : ByteArray) : (d.write i s).Ok := by
 unfold Dk.write
 split
 · rename_i hi
   split
   · rename_i hs
     split
     · have hb := h.burn
       refine ⟨hb.pos, hb.le, hb.sect, fun x hx => ?_, hb.fuse⟩
       simp only [burn_safe]
       rcases List.mem_append.1 hx with hx | hx
       · exact h.wait x hx
       · simp at hx; subst hx; exact ⟨by have := hi.1; have := hi.2; simp; omega, hs⟩
     · exact h.burn
   · exact h
 · exact h
theorem settleOne_sect {f : Nat} {x : Nat × ByteArray} {s : List ByteArray} (h : ∀ t ∈ s, t.size = 128) (hx : x.2.size = 128) : ∀ t ∈ settleOne f x s, t.size = 128 := by
 intro t ht
 unfold settleOne at ht
 split at ht
 · rcases List.mem_or_eq_of_mem_set ht with ht | rfl
   · exact h t ht
   · exact hx
 · split at ht
   · rcases List.mem_or_eq_of_mem_set ht with ht | rfl
     · exact h t ht
     · exact zero128_size
   · exact h t ht
theorem settleTo_sect {f : Nat → Nat} {l : List (Nat × ByteArray)} {s : List ByteArray} (h : ∀ t ∈ s, t.size = 128) (hl : ∀ x ∈ l, x.2.size = 128) : ∀ k, ∀ t ∈ settleTo f l s k, t.size = 128
 | 0 => h
 | k + 1 => by
   unfold settleTo
   split
   · rename_i x hx
     exact settleOne_sect (settleTo_sect h hl k) (hl x (List.mem_of_getElem? hx))
   · exact settleTo_sect h hl k
theorem Ok.settled {d : Dk} (h : d.Ok) (f : Nat → Nat) : 0 < (d.settled f).length ∧ (d.settled f).length ≤ 512 ∧ ∀ s ∈ d.settled f, s.size = 128 :=
 ⟨by unfold Dk.settled; rw [settleTo_len]; exact h.pos, by unfold Dk.settled; rw [settleTo_len]; exact h.le, settleTo_sect h.sect (fun x hx => (h.wait x hx).2) _⟩
theorem Ok.sync {d : Dk} (h : d.Ok) : d.sync.Ok := by
 unfold Dk.sync
 split
 · obtain ⟨a, b, c⟩ := h.settled fun _ => 1
   exact ⟨a, b, c, fun x hx => (by cases hx), h.burn.fuse⟩
 · exact h.burn
theorem Ok.crash {d : Dk} (h : d.Ok) (p : List UInt8) : (d.crash p).Ok := by
 obtain ⟨a, b, c⟩ := h.settled (fate p)
 exact ⟨a, b, c, fun x hx => (by cases hx), fun f hf => by cases hf⟩
theorem Ok.arm {d : Dk} (h : d.Ok) (k : Int) (hk : k < 9223372036854775808) : (d.arm k).Ok := by
 refine ⟨h.pos, h.le, h.sect, h.wait, fun f hf => ?_⟩
 simp only [Dk.arm] at hf
 split at hf
 · simp only [Option.some.injEq] at hf; omega
 · cases hf
end Dk
end Go.Proofs.YtbplgbkbggmaeaaGreat

namespace Go.Proofs.YtbplgbkbggmaeaaGreat
open Go.RowKit
theorem info_u8 : (Tryz.prog.info? 5).map (·.size) = some 1 := by kernel_rfl
def bytesV (l : List UInt8) : Array Value := (l.map fun b => Value.int .u8 b.toNat).toArray
theorem bytesV_size (l : List UInt8) : (bytesV l).size = l.length := by simp [bytesV]
theorem bytesV_set (l : List UInt8) (i : Nat) (v : UInt8) : (bytesV l).setIfInBounds i (.int .u8 v.toNat) = bytesV (l.set i v) := by
 simp [bytesV, List.map_set]
theorem splice_nil {α : Type} (l : List α) (o : Nat) : splice l o [] = l := by simp [splice]
theorem splice_cons {α : Type} (l : List α) (o : Nat) (x : α) (xs : List α) (h : o < l.length) : splice l o (x :: xs) = splice (l.set o x) (o + 1) xs := by
 unfold splice
 have h1 : (l.set o x).take (o + 1) = l.take o ++ [x] := by
   rw [List.take_succ_eq_append_getElem (by simpa using h)]
   simp [List.take_set_of_le]
 have h2 : (l.set o x).drop (o + 1 + xs.length) = l.drop (o + (x :: xs).length) := by
   rw [List.drop_set_of_lt (by omega)]
   congr 1
   simp
   omega
 rw [h1, h2]
 simp
theorem grown_set (w : World) (g i : Nat) (v : Value) : w.grownBy (w.setCell ⟨g, i, none⟩ v) (some g) :=
 ⟨rfl, rfl, rfl, by simp [World.setCell], fun k _ hne => heap_setCell_other w _ k v (fun e => hne (by rw [e]))⟩
theorem grown_trans' {a b c : World} {r : Option Nat} (h : a.grownBy b r) (k : b.grownBy c r) : a.grownBy c r :=
 ⟨k.os.trans h.os, k.tape.trans h.tape, k.output.trans h.output, Nat.le_trans h.size k.size, fun i hi hne => (k.block i (Nat.lt_of_lt_of_le hi h.size) hne).trans (h.block i hi hne)⟩
theorem Blk.setB {w : World} {g t : Nat} {l : List UInt8} (h : Blk w g t (bytesV l)) (i x : Nat) (v : Int) (hv : v = (x : Int) % 256) :
   Blk (w.setCell ⟨g, i, none⟩ (.int .u8 v)) g t (bytesV (l.set i (UInt8.ofNat x))) := by
 have e : v = ((UInt8.ofNat x).toNat : Int) := by rw [hv]; simp
 rw [e, ← bytesV_set]
 exact h.set i _
theorem bytesV_splice (l : List UInt8) (o : Nat) (c : List UInt8) : ((bytesV l).toList.take o ++ Lib.byteCells c ++ (bytesV l).toList.drop (o + c.length)).toArray = bytesV (splice l o c) := by
 simp [bytesV, Lib.byteCells, splice, List.map_take, List.map_drop]
set_option maxRecDepth 100000 in
theorem conv_blk {w : World} {g t : Nat} {l : List UInt8} (h : Blk w g t (bytesV l)) (off len cap : Nat) (ho : off + len ≤ l.length) (src e dst : TypeId)
   (hs : Tryz.prog.underlying src = some (.slice e)) (he : Tryz.prog.underlying e = some (.int .u8)) (hd : Tryz.prog.underlying dst = some .string) :
   (convert src dst (.slice (some ⟨g, off, none⟩) len cap)).run Tryz.prog w = .ok (.string ⟨((l.drop off).take len).toArray⟩) w := by
 have hr := run_convert_bytes_arg (P := Tryz.prog) w src e hs he g off len cap (((l.drop off).take len).map fun b => (b.toNat : Int)) (by simp; omega) (fun i hi => by
   rw [h.cell]
   simp only [bytesV, List.getElem?_toArray, List.getElem?_map]
   rw [List.getElem?_eq_getElem (by omega)]
   simp [List.getD, hi, show off + i < l.length by omega]) dst hd
 rw [hr]
 congr 2
 unfold strOfNums
 rw [List.map_map]
 congr 2
 conv => rhs; rw [← List.map_id ((l.drop off).take len)]
 congr 1
 funext b
 simp
set_option maxRecDepth 100000 in
theorem conv_cells {w : World} {g off cap : Nat} (l : List UInt8) (h : ∀ j b, l[j]? = some b → w.cell? ⟨g, off + j, none⟩ = some (.int .u8 b.toNat)) (src e dst : TypeId)
   (hs : Tryz.prog.underlying src = some (.slice e)) (he : Tryz.prog.underlying e = some (.int .u8)) (hd : Tryz.prog.underlying dst = some .string) (len : Nat) (hl : l.length = len) :
   (convert src dst (.slice (some ⟨g, off, none⟩) len cap)).run Tryz.prog w = .ok (.string ⟨l.toArray⟩) w := by
 have hr := run_convert_bytes_arg (P := Tryz.prog) w src e hs he g off len cap (l.map fun b => (b.toNat : Int)) (by simp [hl]) (fun i hi => by
   rw [h i l[i] (List.getElem?_eq_getElem (by omega))]
   simp [List.getD, hl, hi]) dst hd
 rw [hr]
 congr 2
 unfold strOfNums
 rw [List.map_map]
 congr 2
 conv => rhs; rw [← List.map_id l]
 congr 1
 funext b
 simp
theorem conv_owned {w : World} {base g n cap e : Nat} (l : List UInt8) (h : w.ownsRow base e 1 (.slice (some ⟨g, 0, none⟩) n cap) n (bytesV l).toList) (src dst : TypeId)
   (hs : Tryz.prog.underlying src = some (.slice e)) (he : Tryz.prog.underlying e = some (.int .u8)) (hd : Tryz.prog.underlying dst = some .string) :
   (convert src dst (.slice (some ⟨g, 0, none⟩) n cap)).run Tryz.prog w = .ok (.string ⟨l.toArray⟩) w := by
 refine conv_cells l (fun j b hj => ?_) src e dst hs he hd n (by have := h.1; simp [bytesV] at this; exact this)
 have := h.cells (g := g) rfl j (.int .u8 b.toNat) (by simp [bytesV, hj])
 have hadd : (⟨g, 0, none⟩ : Addr).add j = ⟨g, 0 + j, none⟩ := by unfold Addr.add; split <;> simp_all
 rwa [hadd] at this
theorem getD_at (s : ByteArray) (i : Nat) (h : i < s.size) : s.data.toList.getD i 0 = s[i] := by
 rw [List.getD_eq_getElem?_getD, List.getElem?_eq_getElem (by simpa using h)]
 rfl
end Go.Proofs.YtbplgbkbggmaeaaGreat

namespace Go.Proofs.YtbplgbkbggmaeaaGreat
open Go.RowKit
set_option maxRecDepth 100000 in
set_option maxHeartbeats 2000000 in
theorem clone_any (s : ByteArray) (w : World) (hl : s.size ≤ 281474976710656) :
   Calls Tryz.prog 95 #[.string s] w fun e w' => e = .returned (.string s) ∧ Below w.heap.size w w' := by
 by_cases h0 : s.size = 0
 · obtain rfl : s = ⟨#[]⟩ := by
     apply ByteArray.ext
     exact Array.eq_empty_of_size_eq_zero h0
   go_enter Tryz.func95, Tryz.ntmps95
   go_wp2
   go_ret
   exact ⟨rfl, Below.refl _ _⟩
 · obtain ⟨i, hi, hz, hs1, hs2⟩ : ∃ i, Tryz.prog.info? 5 = some i ∧ i.zero = some (.int .u8 0) ∧ i.size = 1 ∧ i.bytes = 1 := by
     have h : (Tryz.prog.info? 5).map (fun i => (i.zero, i.size, i.bytes)) = some (some (.int .u8 0), 1, 1) := by kernel_rfl
     obtain ⟨i, hi, he⟩ := Option.map_eq_some_iff.1 h
     simp only [Prod.mk.injEq] at he
     exact ⟨i, hi, he.1, he.2.1, he.2.2⟩
   obtain ⟨M, hM⟩ : ∃ M, M = madeCells (Value.int .u8 0).cells (((s.size : Nat) : Int).toNat * i.size) := ⟨_, rfl⟩
   have hMs : M.size = s.size := by rw [hM, size_madeCells, hs1]; simp
   have hmk : ∀ W : World, (Instr.makeSlice 136 (.int .i64 (s.size : Int)) (.int .i64 (s.size : Int))).run Tryz.prog W = .ok (.slice (some ⟨W.heap.size, 0, none⟩) s.size s.size) (W.alloc (.cells M 5)) := fun W => by
     have h := run_make (P := Tryz.prog) W 136 5 i (.int .u8 0) Tryz.underlying136 hi hz .i64 .i64 (s.size : Int) (s.size : Int) (by omega) (by omega) (by rw [hs2]; omega) (by omega)
     rw [← hM] at h
     simpa using h
   clear hM
   have hnew := Blk.new w 5 M
   have hcp := Lib.run_copy_row_string (P := Tryz.prog) (w.alloc (.cells M 5)) 136 9 3 5 w.heap.size 0 s.size s.size s M 5 Tryz.underlying136 info_u8 hnew (Nat.le_refl _) (by omega)
   have eY : (M.toList.take 0 ++ Lib.byteCells s.data.toList ++ M.toList.drop (0 + s.size)).toArray = bytesV s.data.toList := by
     rw [List.take_zero, List.nil_append, List.drop_of_length_le (by rw [Array.length_toList]; omega), List.append_nil]
     rfl
   rw [eY] at hcp
   have hrow := hnew.setRow (bytesV s.data.toList)
   have hne : s.data.toList ≠ [] := fun e => h0 (by rw [← size_bytes, e]; rfl)
   have hus := Lib.run_unsafeString_row (P := Tryz.prog) ((w.alloc (.cells M 5)).setRow w.heap.size (bytesV s.data.toList)) 192 3 9 5 Tryz.underlying192 (by kernel_rfl) w.heap.size (bytesV s.data.toList).size
     (by unfold World.shape?; rw [show ((w.alloc (.cells M 5)).setRow w.heap.size (bytesV s.data.toList)).heap[w.heap.size]? = _ from hrow]) s.data.toList hne (by rw [bytesV_size]; omega) (by rw [size_bytes]; omega)
     (fun j x hx => by
       rw [show ((⟨w.heap.size, 0, none⟩ : Addr).add j) = ⟨w.heap.size, j, none⟩ from by unfold Addr.add; split <;> simp_all, hrow.cell]
       simp [bytesV, hx])
   rw [size_bytes] at hus
   clear eY hMs hnew
   have hb : Below w.heap.size w (((w.alloc (.cells M 5)).setRow w.heap.size (bytesV s.data.toList)).freeze ⟨w.heap.size, 0, none⟩ s.size) :=
     Lib.below_freeze (below_setRow ((Below.refl _ _).alloc (Nat.le_refl _) _) (Nat.le_refl _) _) (Nat.le_refl _) _
   have hB := Lib.hid hb
   clear hb hrow
   go_enter Tryz.func95, Tryz.ntmps95
   go_wp2
   go_ret
   exact ⟨rfl, hB.out⟩
theorem cloneS_any (s : ByteArray) (w : World) (hl : s.size ≤ 281474976710656) :
   Calls Tryz.prog 72 #[.string s] w fun e w' => e = .returned (.string s) ∧ Below w.heap.size w w' := by
 go_enter Tryz.func72, Tryz.ntmps72
 go_wp2_with fail
 refine (clone_any s _ hl).mono ?_
 rintro e w1 ⟨rfl, hb⟩
 go_wp2
 go_ret
 exact ⟨rfl, hb⟩
end Go.Proofs.YtbplgbkbggmaeaaGreat

namespace Go.Proofs.YtbplgbkbggmaeaaGreat
open Go.RowKit
theorem zero_run (w : World) : (zeroValue 155).run Tryz.prog w = .ok (.agg (bytesV (List.replicate 128 0))) w := by kernel_rfl
set_option maxRecDepth 100000 in
set_option maxHeartbeats 1000000 in
theorem zero_any (w : World) :
   Calls Tryz.prog 61 #[] w fun e w' => e = .returned (.string ⟨(List.replicate 128 0).toArray⟩) ∧ Below w.heap.size w w' := by
 have hz := zero_run
 generalize hl : List.replicate 128 (0 : UInt8) = l at *
 have hc := conv_blk (Blk.new w 155 (bytesV l)) 0 128 128 (by rw [← hl]; simp) 136 5 9 Tryz.underlying136 Tryz.underlying5 Tryz.underlying9
 have hL := Lib.hid hl
 clear hl
 go_enter Tryz.func61, Tryz.ntmps61
 go_wp2
 go_ret
 refine ⟨?_, (Below.refl _ _).alloc (Nat.le_refl _) _⟩
 show Ending.returned (.string ⟨(List.take 128 l).toArray⟩) = _
 rw [List.take_of_length_le (by rw [← hL.out]; simp)]
end Go.Proofs.YtbplgbkbggmaeaaGreat

namespace Go.Proofs.YtbplgbkbggmaeaaGreat
open Go.RowKit
end Go.Proofs.YtbplgbkbggmaeaaGreat

namespace Go.Proofs.YtbplgbkbggmaeaaGreat
open Go.RowKit
def be4 (n : Nat) : List UInt8 := [UInt8.ofNat (n / 16777216), UInt8.ofNat (n / 65536), UInt8.ofNat (n / 256), UInt8.ofNat n]
theorem be4_len (n : Nat) : (be4 n).length = 4 := rfl
end Go.Proofs.YtbplgbkbggmaeaaGreat

namespace Go.Proofs.YtbplgbkbggmaeaaGreat.Crc
def step (c : Nat) : Nat := if c % 2 = 1 then c / 2 ^^^ 3988292384 else c / 2
def step4 (c : Nat) : Nat := step (step (step (step c)))
def step8 (c : Nat) : Nat := step4 (step4 c)
def byteStep (c : Nat) (b : UInt8) : Nat := step8 (c ^^^ b.toNat)
def run (c : Nat) (l : List UInt8) : Nat := l.foldl byteStep c
def sum (l : List UInt8) : Nat := 4294967295 - run 4294967295 l
theorem xor_lt {a b : Nat} (ha : a < 4294967296) (hb : b < 4294967296) : a ^^^ b < 4294967296 :=
 Nat.xor_lt_two_pow (n := 32) ha hb
theorem step_lt {c : Nat} (h : c < 4294967296) : step c < 4294967296 := by
 unfold step
 split
 · exact xor_lt (by omega) (by omega)
 · omega
theorem step4_lt {c : Nat} (h : c < 4294967296) : step4 c < 4294967296 := step_lt (step_lt (step_lt (step_lt h)))
theorem step8_lt {c : Nat} (h : c < 4294967296) : step8 c < 4294967296 := step4_lt (step4_lt h)
theorem byte_lt (b : UInt8) : b.toNat < 256 := b.toNat_lt
theorem byteStep_lt {c : Nat} (b : UInt8) (h : c < 4294967296) : byteStep c b < 4294967296 :=
 step8_lt (xor_lt h (by have := byte_lt b; omega))
theorem run_lt (l : List UInt8) : ∀ {c : Nat}, c < 4294967296 → run c l < 4294967296 := by
 induction l with
 | nil => intro c h; exact h
 | cons b l ih => intro c h; exact ih (byteStep_lt b h)
theorem sum_lt (l : List UInt8) : sum l < 4294967296 := by unfold sum; omega
theorem run_append (c : Nat) (l m : List UInt8) : run c (l ++ m) = run (run c l) m := by simp [run, List.foldl_append]
theorem run_snoc (c : Nat) (l : List UInt8) (b : UInt8) : run c (l ++ [b]) = byteStep (run c l) b := by rw [run_append]; rfl
theorem xor_div_two (a b : Nat) : (a ^^^ b) / 2 = a / 2 ^^^ b / 2 := by
 apply Nat.eq_of_testBit_eq
 intro i
 simp [Nat.testBit_div_two]
theorem xor_mod_two (a b : Nat) : (a ^^^ b) % 2 = (a % 2 + b % 2) % 2 := by
 have h := Nat.testBit_xor a b 0
 simp only [Nat.testBit_zero] at h
 have ha := Nat.mod_two_eq_zero_or_one a
 have hb := Nat.mod_two_eq_zero_or_one b
 have hc := Nat.mod_two_eq_zero_or_one (a ^^^ b)
 rcases ha with ha | ha <;> rcases hb with hb | hb <;> rcases hc with hc | hc <;> simp [ha, hb, hc] at h ⊢
theorem step_xor (a b : Nat) : step (a ^^^ b) = step a ^^^ step b := by
 unfold step
 rw [xor_div_two, xor_mod_two]
 rcases Nat.mod_two_eq_zero_or_one a with ha | ha <;> rcases Nat.mod_two_eq_zero_or_one b with hb | hb <;> simp [ha, hb]
 · ac_rfl
 · ac_rfl
 · have : ∀ x y p : Nat, x ^^^ y = x ^^^ p ^^^ (y ^^^ p) := fun x y p => by
     rw [Nat.xor_assoc, ← Nat.xor_assoc p y p, Nat.xor_comm p y, Nat.xor_assoc y p p, Nat.xor_self, Nat.xor_zero]
   exact this _ _ _
theorem step4_xor (a b : Nat) : step4 (a ^^^ b) = step4 a ^^^ step4 b := by simp only [step4, step_xor]
theorem step_double (c : Nat) : step (c * 2) = c := by unfold step; rw [if_neg (by omega)]; omega
theorem step4_shift (c : Nat) : step4 (c * 16) = c := by
 unfold step4
 rw [show c * 16 = c * 2 * 2 * 2 * 2 from by omega, step_double, step_double, step_double, step_double]
theorem split16 (c : Nat) : c / 16 * 16 ^^^ c % 16 = c := by
 apply Nat.eq_of_testBit_eq
 intro i
 have h1 : c / 16 * 16 = (c >>> 4) <<< 4 := by rw [Nat.shiftLeft_eq, Nat.shiftRight_eq_div_pow]
 have h2 : c % 16 = c % 2 ^ 4 := by simp
 rw [Nat.testBit_xor, h1, h2, Nat.testBit_mod_two_pow, Nat.testBit_shiftLeft, Nat.testBit_shiftRight]
 by_cases hi : i < 4
 · simp [hi, show ¬ 4 ≤ i from by omega]
 · simp [hi, show i ≥ 4 from by omega, show 4 + (i - 4) = i from by omega]
theorem step4_eq (c : Nat) : step4 c = c / 16 ^^^ step4 (c % 16) := by
 have h := step4_xor (c / 16 * 16) (c % 16)
 rw [split16, step4_shift] at h
 exact h
theorem xor_div16 (a b : Nat) : (a ^^^ b) / 16 = a / 16 ^^^ b / 16 := by
 have h := fun n : Nat => (Nat.shiftRight_eq_div_pow n 4).symm
 simp only [show (2:Nat) ^ 4 = 16 from rfl] at h
 rw [h, h, h, Nat.shiftRight_xor_distrib]
theorem byteStep_halves (c : Nat) (b : UInt8) :
   byteStep c b = (c / 16 ^^^ step4 ((c ^^^ b.toNat) % 16)) / 16 ^^^ step4 (((c / 16 ^^^ step4 ((c ^^^ b.toNat) % 16)) ^^^ b.toNat / 16) % 16) := by
 have hb := byte_lt b
 unfold byteStep step8
 have h1 : step4 (c ^^^ b.toNat) = (c / 16 ^^^ step4 ((c ^^^ b.toNat) % 16)) ^^^ b.toNat / 16 := by
   rw [step4_eq, xor_div16]
   ac_rfl
 rw [h1, step4_eq]
 congr 1
 rw [xor_div16, show b.toNat / 16 / 16 = 0 from by omega, Nat.xor_zero]
end Go.Proofs.YtbplgbkbggmaeaaGreat.Crc

namespace Go.Proofs.YtbplgbkbggmaeaaGreat
open Go.RowKit
theorem or_u32 (a b : Nat) (ha : a < 16777216) (hb : b < 256) : bits .or .u32 ((a : Int) * 256 % 4294967296) (b : Int) = ((a * 256 + b : Nat) : Int) := by
 have h := u32_or_nat (a * 256) b (by omega) (by omega)
 rw [show (a : Int) * 256 % 4294967296 = ((a * 256 : Nat) : Int) from by omega, h]
 congr 1
 have := Nat.shiftLeft_add_eq_or_of_lt (b := b) (i := 8) (by omega) a
 rw [Nat.shiftLeft_eq] at this
 exact this.symm
theorem or_be (a b c d : Nat) (ha : a < 256) (hb : b < 256) (hc : c < 256) (hd : d < 256) :
   bits .or .u32 (bits .or .u32 (bits .or .u32 (bits .or .u32 0 (a : Int) * 256 % 4294967296) (b : Int) * 256 % 4294967296) (c : Int) * 256 % 4294967296) (d : Int) = ((a * 16777216 + b * 65536 + c * 256 + d : Nat) : Int) := by
 have h0 : bits .or .u32 0 (a : Int) = (a : Int) := by
   have := u32_or_nat 0 a (by omega) (by omega)
   simpa using this
 rw [h0, or_u32 a b (by omega) hb, or_u32 _ c (by omega) hc, or_u32 _ d (by omega) hd]
 omega
def num4 (l : List UInt8) : Nat := (l.getD 0 0).toNat * 16777216 + (l.getD 1 0).toNat * 65536 + (l.getD 2 0).toNat * 256 + (l.getD 3 0).toNat
theorem set4 (l : List UInt8) (o : Nat) (a b c d : UInt8) (h : o + 4 ≤ l.length) :
   (((l.set o a).set (o + 1) b).set (o + 2) c).set (o + 3) d = splice l o [a, b, c, d] := by
 rw [splice_cons _ _ _ _ (by omega), splice_cons _ _ _ _ (by simp; omega), splice_cons _ _ _ _ (by simp; omega), splice_cons _ _ _ _ (by simp; omega), splice_nil]
theorem num4_be4 (n : Nat) (h : n < 4294967296) (l : List UInt8) : num4 (be4 n ++ l) = n := by
 unfold num4 be4
 simp [List.getD_eq_getElem?_getD]
 omega
end Go.Proofs.YtbplgbkbggmaeaaGreat

namespace Go.Proofs.YtbplgbkbggmaeaaGreat
open Go.RowKit
set_option maxRecDepth 100000 in
set_option maxHeartbeats 1000000 in
theorem number_any (s : ByteArray) (w : World) (h4 : 4 ≤ s.size) :
   Calls Tryz.prog 93 #[.string s] w fun e w' => e = .returned (.int .u32 (num4 s.data.toList : Nat)) ∧ Below w.heap.size w w' := by
 have b0 : (s[0].toNat : Int) < 256 := by have := s[0].toNat_lt; omega
 have b1 : (s[1].toNat : Int) < 256 := by have := s[1].toNat_lt; omega
 have b2 : (s[2].toNat : Int) < 256 := by have := s[2].toNat_lt; omega
 have b3 : (s[3].toNat : Int) < 256 := by have := s[3].toNat_lt; omega
 have i0 : 0 < s.size := by omega
 have i1 : (1 : Int) < s.size := by omega
 have i2 : (2 : Int) < s.size := by omega
 have i3 : (3 : Int) < s.size := by omega
 go_enter Tryz.func93, Tryz.ntmps93
 go_wp2
 go_region
 all_goals
   go_wp2
   go_ret
   refine ⟨?_, (Below.refl _ _).drew⟩
   rw [num4, getD_at s 0 (by omega), getD_at s 1 (by omega), getD_at s 2 (by omega), getD_at s 3 (by omega)]
   congr 1
end Go.Proofs.YtbplgbkbggmaeaaGreat

namespace Go.Proofs.YtbplgbkbggmaeaaGreat
open Go.RowKit
end Go.Proofs.YtbplgbkbggmaeaaGreat
