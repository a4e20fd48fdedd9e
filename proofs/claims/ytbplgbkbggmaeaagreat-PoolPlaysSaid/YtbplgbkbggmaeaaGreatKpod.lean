/- Texts that belong together, joined: Srt, Srb, PoI, PoK. -/
import Derived.Shelf.SlIterI.Nil
import Derived.Shelf.SortM.Plain
import Derived.Shelf.SortM.SortNone
import Derived.Test.YtbplgbkbggmaeaaGreatKbase
import Derived.Test.YtbplgbkbggmaeaaGreatProg
import Derived.Test.YtbplgbkbggmaeaaGreatKpo
import Derived.Test.YtbplgbkbggmaeaaGreatKpoc
import Derived.Test.YtbplgbkbggmaeaaGreatKrec
import Derived.Test.YtbplgbkbggmaeaaGreatKdisk
import Derived.Test.YtbplgbkbggmaeaaGreatKwalb
namespace Go.Proofs.YtbplgbkbggmaeaaGreat
open Go.RowKit Go.Maps Go.Sort Go.Shelf
def srtKeysRen : Ren :=
 ⟨fun n => match n with | 7 => 57 | 10 => 88 | n => n,
  fun n => match n with | 23 => 98 | 26 => 3 | 3 => 3 | 28 => 122 | 0 => 0 | 27 => 121 | 33 => 124 | 4 => 4 | n => n,
  fun n => n⟩
set_option maxRecDepth 100000 in
theorem srtKeys : SlLaysZI.n7 Tryz.prog srtKeysRen where
 mixed := by kernel_rfl
 f7 := ⟨"maps.Keys[map[int]int,int,int]", by decide, by kernel_rfl⟩
 f10 := ⟨"maps.Keys[map[int]int,int,int]$1", by decide, by kernel_rfl⟩
 t0 := by kernel_rfl
 a0 := fun w => by kernel_rfl
 z0 := fun w => by kernel_rfl
 v0 := fun w => by kernel_rfl
 t4 := by kernel_rfl
 a4 := fun w => by kernel_rfl
 z4 := fun w => by kernel_rfl
 v4 := fun w => by kernel_rfl
 t23 := by kernel_rfl
 a23 := fun w => by kernel_rfl
 z23 := fun w => by kernel_rfl
 v23 := fun w => by kernel_rfl
 t26 := by kernel_rfl
 a26 := fun w => by kernel_rfl
 z26 := fun w => by kernel_rfl
 v26 := fun w => by kernel_rfl
 t27 := by kernel_rfl
 a27 := fun w => by kernel_rfl
 z27 := fun w => by kernel_rfl
 v27 := fun w => by kernel_rfl
 t28 := by kernel_rfl
 a28 := fun w => by kernel_rfl
 z28 := fun w => by kernel_rfl
 v28 := fun w => by kernel_rfl
 t33 := by kernel_rfl
 a33 := fun w => by kernel_rfl
 z33 := fun w => by kernel_rfl
 v33 := fun w => by kernel_rfl
def srtSortedRen : Ren :=
 ⟨fun n => match n with | 6 => 56 | 8 => 86 | 9 => 87 | 11 => 112 | 13 => 114 | 12 => 113 | 23 => 143 | 24 => 144 | 14 => 134 | 15 => 135 | 16 => 136 | 17 => 137 | 18 => 138 | 19 => 139 | 20 => 140 | 21 => 141 | 22 => 142 | 25 => 159 | 26 => 160 | 27 => 161 | 28 => 162 | 29 => 163 | 30 => 164 | 31 => 168 | n => n,
  fun n => match n with | 26 => 3 | 28 => 122 | 24 => 119 | 0 => 0 | 3 => 3 | 37 => 162 | 48 => 130 | 50 => 189 | 4 => 4 | 40 => 204 | 39 => 203 | 45 => 101 | 5 => 5 | 9 => 9 | 51 => 216 | 55 => 220 | 57 => 223 | 58 => 62 | 33 => 124 | n => n,
  fun n => n⟩
set_option maxRecDepth 100000 in
theorem srtSorted : SlLaysZI.n6 Tryz.prog srtSortedRen where
 mixed := by kernel_rfl
 f6 := ⟨"slices.Sorted[int]", by decide, by kernel_rfl⟩
 f8 := ⟨"slices.Collect[int]", by decide, by kernel_rfl⟩
 f11 := ⟨"slices.AppendSeq[[]int,int]", by decide, by kernel_rfl⟩
 t0 := by kernel_rfl
 a0 := fun w => by kernel_rfl
 z0 := fun w => by kernel_rfl
 v0 := fun w => by kernel_rfl
 t24 := by kernel_rfl
 a24 := fun w => by kernel_rfl
 z24 := fun w => by kernel_rfl
 v24 := fun w => by kernel_rfl
 t26 := by kernel_rfl
 a26 := fun w => by kernel_rfl
 z26 := fun w => by kernel_rfl
 v26 := fun w => by kernel_rfl
 t28 := by kernel_rfl
 a28 := fun w => by kernel_rfl
 z28 := fun w => by kernel_rfl
 v28 := fun w => by kernel_rfl
 i26 := by kernel_rfl
def srtSortRen : Ren :=
 ⟨fun n => match n with | 5 => 87 | 8 => 114 | 7 => 113 | 19 => 143 | 20 => 144 | 10 => 134 | 11 => 135 | 12 => 136 | 13 => 137 | 14 => 138 | 15 => 139 | 16 => 140 | 17 => 141 | 18 => 142 | 30 => 159 | 31 => 160 | 32 => 161 | 33 => 162 | 34 => 163 | 35 => 164 | 40 => 168 | n => n,
  fun n => match n with | 23 => 119 | 25 => 3 | 3 => 3 | 32 => 162 | 22 => 119 | 0 => 0 | 44 => 130 | 46 => 189 | 4 => 4 | 36 => 204 | 35 => 203 | 41 => 101 | 5 => 5 | 9 => 9 | 53 => 216 | 57 => 220 | 63 => 223 | 64 => 62 | n => n,
  fun n => n⟩
set_option maxRecDepth 100000 in
theorem srtSort : SlLaysM.n5 Tryz.prog srtSortRen where
 mixed := by kernel_rfl
 f5 := ⟨"slices.Sort[[]int,int]", by decide, by kernel_rfl⟩
 f7 := ⟨"slices.pdqsortOrdered[int]", by decide, by kernel_rfl⟩
 f8 := by kernel_rfl
 f10 := ⟨"slices.insertionSortOrdered[int]", by decide, by kernel_rfl⟩
 f11 := ⟨"slices.heapSortOrdered[int]", by decide, by kernel_rfl⟩
 f12 := ⟨"slices.breakPatternsOrdered[int]", by decide, by kernel_rfl⟩
 f13 := ⟨"slices.choosePivotOrdered[int]", by decide, by kernel_rfl⟩
 f14 := ⟨"slices.reverseRangeOrdered[int]", by decide, by kernel_rfl⟩
 f15 := ⟨"slices.partialInsertionSortOrdered[int]", by decide, by kernel_rfl⟩
 f16 := ⟨"cmp.Less[int]", by decide, by kernel_rfl⟩
 f17 := ⟨"slices.partitionEqualOrdered[int]", by decide, by kernel_rfl⟩
 f18 := ⟨"slices.partitionOrdered[int]", by decide, by kernel_rfl⟩
 f19 := by kernel_rfl
 f20 := by kernel_rfl
 f30 := ⟨"slices.siftDownOrdered[int]", by decide, by kernel_rfl⟩
 f31 := by kernel_rfl
 f32 := by kernel_rfl
 f33 := ⟨"slices.medianAdjacentOrdered[int]", by decide, by kernel_rfl⟩
 f34 := ⟨"slices.medianOrdered[int]", by decide, by kernel_rfl⟩
 f35 := ⟨"cmp.isNaN[int]", by decide, by kernel_rfl⟩
 f40 := ⟨"slices.order2Ordered[int]", by decide, by kernel_rfl⟩
 t0 := by kernel_rfl
 a0 := fun w => by kernel_rfl
 z0 := fun w => by kernel_rfl
 v0 := fun w => by kernel_rfl
 t3 := by kernel_rfl
 a3 := fun w => by kernel_rfl
 z3 := fun w => by kernel_rfl
 v3 := fun w => by kernel_rfl
 t4 := by kernel_rfl
 a4 := fun w => by kernel_rfl
 z4 := fun w => by kernel_rfl
 v4 := fun w => by kernel_rfl
 t5 := by kernel_rfl
 a5 := fun w => by kernel_rfl
 z5 := fun w => by kernel_rfl
 v5 := fun w => by kernel_rfl
 t9 := by kernel_rfl
 a9 := fun w => by kernel_rfl
 z9 := fun w => by kernel_rfl
 v9 := fun w => by kernel_rfl
 t22 := by kernel_rfl
 a22 := fun w => by kernel_rfl
 z22 := fun w => by kernel_rfl
 v22 := fun w => by kernel_rfl
 t23 := by kernel_rfl
 a23 := fun w => by kernel_rfl
 z23 := fun w => by kernel_rfl
 v23 := fun w => by kernel_rfl
 t25 := by kernel_rfl
 a25 := fun w => by kernel_rfl
 z25 := fun w => by kernel_rfl
 v25 := fun w => by kernel_rfl
 t32 := by kernel_rfl
 a32 := fun w => by kernel_rfl
 z32 := fun w => by kernel_rfl
 v32 := fun w => by kernel_rfl
 t35 := by kernel_rfl
 a35 := fun w => by kernel_rfl
 z35 := fun w => by kernel_rfl
 v35 := fun w => by kernel_rfl
 t36 := by kernel_rfl
 a36 := fun w => by kernel_rfl
 z36 := fun w => by kernel_rfl
 v36 := fun w => by kernel_rfl
 t41 := by kernel_rfl
 a41 := fun w => by kernel_rfl
 z41 := fun w => by kernel_rfl
 v41 := fun w => by kernel_rfl
 t44 := by kernel_rfl
 a44 := fun w => by kernel_rfl
 z44 := fun w => by kernel_rfl
 v44 := fun w => by kernel_rfl
 t46 := by kernel_rfl
 a46 := fun w => by kernel_rfl
 z46 := fun w => by kernel_rfl
 v46 := fun w => by kernel_rfl
 t53 := by kernel_rfl
 a53 := fun w => by kernel_rfl
 z53 := fun w => by kernel_rfl
 v53 := fun w => by kernel_rfl
 t57 := by kernel_rfl
 a57 := fun w => by kernel_rfl
 z57 := fun w => by kernel_rfl
 v57 := fun w => by kernel_rfl
 t63 := by kernel_rfl
 a63 := fun w => by kernel_rfl
 z63 := fun w => by kernel_rfl
 v63 := fun w => by kernel_rfl
 t64 := by kernel_rfl
 a64 := fun w => by kernel_rfl
 z64 := fun w => by kernel_rfl
 v64 := fun w => by kernel_rfl
theorem srtSorts (m : Nat) : AnyZI.SortsIn Tryz.prog srtSortedRen Fence.wide m :=
 ⟨fun blk off cap ss W hH hblk hsz => callsIn_wide.2 (AnyM.slices_Sort_int srtSort blk off cap ss W hH hblk hsz),
  fun p cap W => callsIn_wide.2 (AnyM.slices_Sort_int_none srtSort p cap W)⟩
end Go.Proofs.YtbplgbkbggmaeaaGreat

namespace Go.Proofs.YtbplgbkbggmaeaaGreat
open Go.RowKit Go.Maps Go.Sort Go.Shelf Go.MapKept
theorem srt_keys (mb : Option Nat) (W : World) : Calls Tryz.prog 57 #[.map mb] W fun e w' => e = .returned (.func (.func 88) #[] #[.pointer (some ⟨W.heap.size, 0, none⟩)]) ∧ w' = W.alloc (.cells #[.map mb] 98) :=
 (callsIn_wide (n := 5)).1 (AnyZI.keys_in srtKeys Fence.wide 5 trivial rfl mb W)
def noVal (_ : Value) : Option (DataW Unit × List MemPlace) := some (.nil, [])
theorem bmap_fit {es : Array MapEntry} {clock : Nat} (hE : Entries es.toList) (hs : Stamped es clock) (hw : ∀ e ∈ es.toList, ∀ i, e.key = .int .i64 i → 0 ≤ i ∧ i < 8) :
   Go.WideElems.Fit Tryz.prog 3 noVal es clock ∧ es.size ≤ 8 ∧ (∀ e ∈ es.toList, (Go.WideElems.rg Tryz.prog 3 noVal e).1 = (match e.key with | .int .i64 i => Lit.int .i64 i | _ => .bool false)) := by
 have hk : ∀ e ∈ es.toList, ∃ i, e.key = .int .i64 i ∧ keyOf Tryz.prog 3 e.key = some (.int .i64 i) := fun e he => by
   obtain ⟨i, hi⟩ := hE.keys e he
   have h2 := hw e he i hi
   refine ⟨i, hi, ?_⟩
   rw [hi]
   have h3 : i = 0 ∨ i = 1 ∨ i = 2 ∨ i = 3 ∨ i = 4 ∨ i = 5 ∨ i = 6 ∨ i = 7 := by omega
   refine Maps.keyOf_int_mk Tryz.underlying3 ?_
   rcases h3 with rfl | rfl | rfl | rfl | rfl | rfl | rfl | rfl <;> decide
 have hsz : es.size ≤ 8 := by
   have hn : (es.toList.map fun e => match e.key with | .int .i64 i => i | _ => 0).Nodup := by
     refine List.pairwise_map.2 (hE.apart.imp_of_mem fun {a b} ha hb hne e => hne ?_)
     obtain ⟨i, hi⟩ := hE.keys a ha
     obtain ⟨j, hj⟩ := hE.keys b hb
     rw [hi, hj] at e ⊢
     simp only at e
     rw [e]
   have := few_below 8 _ hn fun x hx => by
     obtain ⟨e, he, rfl⟩ := List.mem_map.1 hx
     obtain ⟨i, hi⟩ := hE.keys e he
     have := hw e he i hi
     rw [hi]
     simpa using this
   simpa using this
 refine ⟨⟨by simp only [maxLen]; omega, hs, fun x hx => ?_⟩, hsz, fun e he => ?_⟩
 · obtain ⟨i, hi, h2⟩ := hk x hx
   exact ⟨(.int .i64 i, .nil), by unfold Go.WideElems.rd; rw [h2]; rfl⟩
 · obtain ⟨i, hi, h2⟩ := hk e he
   unfold Go.WideElems.rg Go.WideElems.rd
   rw [h2, hi]
   rfl
theorem rise_one {ss : List Int} (hn : ss.Nodup) (p : Nat → Bool) (N : Nat) (hm : ∀ x : Int, x ∈ ss ↔ ∃ i : Nat, i < N ∧ p i = true ∧ x = i) :
   (ss.mergeSort fun x y => decide (x ≤ y)) = ((List.range N).filter p).map fun i : Nat => (i : Int) := by
 have hs : ((List.range N).filter p).Pairwise fun a b => a < b := List.pairwise_lt_range.filter _
 have hp : ss.Perm (((List.range N).filter p).map fun i : Nat => (i : Int)) := by
   refine (List.perm_ext_iff_of_nodup hn ?_).2 fun x => ?_
   · exact List.pairwise_map.2 (hs.imp fun {a b} h => by simp only [ne_eq]; omega)
   · rw [hm x, List.mem_map]
     constructor
     · rintro ⟨i, h1, h2, rfl⟩; exact ⟨i, List.mem_filter.2 ⟨List.mem_range.2 h1, h2⟩, rfl⟩
     · rintro ⟨i, hi, rfl⟩
       obtain ⟨h1, h2⟩ := List.mem_filter.1 hi
       exact ⟨i, List.mem_range.1 h1, h2, rfl⟩
 refine List.Perm.eq_of_pairwise (le := fun a b : Int => a ≤ b) (fun a b _ _ h1 h2 => Int.le_antisymm h1 h2) ?_ ?_ ((List.mergeSort_perm ss _).trans hp)
 · exact (List.pairwise_mergeSort (le := fun x y : Int => decide (x ≤ y)) (fun a b c h1 h2 => by simp only [decide_eq_true_eq] at *; omega) (fun a b => by simp only [Bool.or_eq_true, decide_eq_true_eq]; omega) ss).imp fun {a b} h => by simpa using h
 · exact List.pairwise_map.2 (hs.imp fun {a b} h => by omega)
set_option maxRecDepth 100000 in
theorem srt_sorted {w : World} {b : Nat} {f : Int → Option Value} (h : BMap w b f) (hf : ∀ i, (f i).isSome = true → 0 ≤ i ∧ i < 8) (x : Nat) (hx : w.cell? ⟨x, 0, none⟩ = some (.map (some b))) (hxl : x < w.heap.size) :
   Calls Tryz.prog 56 #[.func (.func 88) #[] #[.pointer (some ⟨x, 0, none⟩)]] w fun e w' => ∃ v : Value, e = .returned v ∧
     w'.ownsRow w.heap.size 3 1 v ((List.range 8).filter fun i : Nat => (f i).isSome).length ((((List.range 8).filter fun i : Nat => (f i).isSome).map fun i : Nat => (i : Int)).map encZ) ∧ (v = .slice none 0 0 ↔ (List.range 8).filter (fun i : Nat => (f i).isSome) = []) ∧ Below w.heap.size w w' := by
 obtain ⟨es, clock, hb, hE, hF, hS⟩ := h
 have hw : ∀ e ∈ es.toList, ∀ i, e.key = .int .i64 i → 0 ≤ i ∧ i < 8 := fun e he i hi => hf i (by rw [← hF i]; exact (findAt_iff hE i).2 ⟨e, he, hi⟩)
 obtain ⟨hfit, hsz, hrg⟩ := bmap_fit hE hS hw
 have hown : w.ownsMap Tryz.prog 3 noVal b 8 (.map ((es.toList.map (Go.WideElems.rg Tryz.prog 3 noVal)).foldr DataW.insert [])) := ⟨es, clock, hb, hfit, hsz, rfl⟩
 have hseq : SeqGives Fence.wide 2 Tryz.prog 88 #[.pointer (some ⟨x, 0, none⟩)] encZ (fun ss => ss.Perm (intKeys (.map ((es.toList.map (Go.WideElems.rg Tryz.prog 3 noVal)).foldr DataW.insert [])))) (Maps.size (.map ((es.toList.map (Go.WideElems.rg Tryz.prog 3 noVal)).foldr DataW.insert []))) w :=
   AnyZI.keys_gives (ρ := srtKeysRen) { srtKeys with } Fence.wide _ trivial rfl (by omega) x b 8 _ _ hxl hx hown
 have hlen : Maps.size (.map ((es.toList.map (Go.WideElems.rg Tryz.prog 3 noVal)).foldr DataW.insert [])) ≤ 8 := by
   show ((es.toList.map (Go.WideElems.rg Tryz.prog 3 noVal)).foldr DataW.insert []).length ≤ 8
   rw [(Go.WideShapes.sorted_perm _).length_eq]
   simpa using hsz
 have hkeys : ∀ ss : List Int, ss.Perm (intKeys (.map ((es.toList.map (Go.WideElems.rg Tryz.prog 3 noVal)).foldr DataW.insert []))) → (ss.mergeSort fun x y => decide (x ≤ y)) = ((List.range 8).filter fun i : Nat => (f i).isSome).map fun i : Nat => (i : Int) := fun ss hp => by
   have hp2 : ss.Perm (es.toList.map fun e => match e.key with | .int .i64 i => i | _ => 0) := by
     refine hp.trans ?_
     show ((((es.toList.map (Go.WideElems.rg Tryz.prog 3 noVal)).foldr DataW.insert [])).map fun p => Go.intOf p.1).Perm _
     refine ((Go.WideShapes.sorted_perm _).map _).trans ?_
     rw [List.map_map]
     refine List.Perm.of_eq (List.map_congr_left fun e he => ?_)
     obtain ⟨i, hi⟩ := hE.keys e he
     show Go.intOf (Go.WideElems.rg Tryz.prog 3 noVal e).1 = _
     rw [hrg e he, hi]
     rfl
   refine rise_one (hp2.nodup_iff.2 ?_) (fun i : Nat => (f i).isSome) 8 fun x => ?_
   · refine List.pairwise_map.2 (hE.apart.imp_of_mem fun {a b} ha hb hne e => hne ?_)
     obtain ⟨i, hi⟩ := hE.keys a ha
     obtain ⟨j, hj⟩ := hE.keys b hb
     rw [hi, hj] at e ⊢
     simp only at e
     rw [e]
   · rw [hp2.mem_iff, List.mem_map]
     constructor
     · rintro ⟨e, he, rfl⟩
       obtain ⟨i, hi⟩ := hE.keys e he
       have h2 := hw e he i hi
       refine ⟨i.toNat, by omega, ?_, ?_⟩
       · rw [show ((i.toNat : Nat) : Int) = i by omega, ← hF i]
         exact (findAt_iff hE i).2 ⟨e, he, hi⟩
       · rw [hi]; simp only; omega
     · rintro ⟨i, h1, h2, rfl⟩
       rw [← hF] at h2
       obtain ⟨e, he, hi⟩ := (findAt_iff hE i).1 h2
       exact ⟨e, he, by rw [hi]⟩
 have cS := (callsIn_wide (n := 5)).1 (AnyZI.sorted_in srtSorted Fence.wide 5 trivial trivial trivial trivial rfl (by omega) (srtSorts _) (enters_of Tryz.func87 (by kernel_rfl) rfl) 88 #[.pointer (some ⟨x, 0, none⟩)] trivial (enters_of Tryz.func88 (by kernel_rfl) rfl) _ _ (Nat.le_trans hlen (by simp only [maxLen]; omega)) (by omega) _ hseq)
 refine cS.mono ?_
 rintro e w' ⟨v, ss, rfl, hS', hrow, hnil, hb'⟩
 have hk := hkeys ss hS'
 have hl : ss.length = ((List.range 8).filter fun i : Nat => (f i).isSome).length := by
   rw [← (List.mergeSort_perm ss fun x y => decide (x ≤ y)).length_eq, hk, List.length_map]
 rw [hk, hl] at hrow
 refine ⟨v, rfl, hrow, ?_, hb'⟩
 rw [hnil]
 constructor
 · intro h0; rw [h0] at hl; exact List.eq_nil_of_length_eq_zero hl.symm
 · intro h0; rw [h0] at hl; exact List.eq_nil_of_length_eq_zero hl
end Go.Proofs.YtbplgbkbggmaeaaGreat

namespace Go.Proofs.YtbplgbkbggmaeaaGreat
open Go.RowKit
def dirtyAt (l : Frs) (i : Nat) : Option (Int × Int) := match holds l i with
 | none => none
 | some k => match l.getD k none with
   | none => none
   | some f => if f.dirty = true then some ((i : Int), f.since) else none
def dirtyL (l : Frs) : List (Int × Int) := (List.range 8).filterMap (dirtyAt l)
def heldL (l : Frs) : List Nat := (List.range 8).filter fun i : Nat => (hm l i).isSome
theorem hm_isSome (l : Frs) (i : Int) : (hm l i).isSome = (holds l i).isSome := by unfold hm; cases holds l i <;> rfl
theorem heldL_mem {l : Frs} {i : Nat} (h : i ∈ heldL l) : i < 8 ∧ ∃ k f, holds l (i : Int) = some k ∧ l[k]? = some (some f) := by
 obtain ⟨h1, h2⟩ := List.mem_filter.1 h
 refine ⟨List.mem_range.1 h1, ?_⟩
 simp only [hm_isSome] at h2
 obtain ⟨k, hk⟩ := Option.isSome_iff_exists.1 h2
 obtain ⟨f, hf, _⟩ := holds_some hk
 exact ⟨k, f, hk, hf⟩
theorem dirtyL_held (l : Frs) : dirtyL l = (heldL l).filterMap (dirtyAt l) := by
 unfold dirtyL heldL
 generalize List.range 8 = L
 induction L with
 | nil => rfl
 | cons i L ih =>
   by_cases h : (hm l (i : Int)).isSome = true
   · rw [List.filter_cons_of_pos (p := fun i : Nat => (hm l (i : Int)).isSome) h, List.filterMap_cons, List.filterMap_cons, ih]
   · rw [List.filter_cons_of_neg (p := fun i : Nat => (hm l (i : Int)).isSome) h, List.filterMap_cons]
     have e : dirtyAt l i = none := by
       unfold dirtyAt
       rw [hm_isSome] at h
       cases hh : holds l (i : Int) with
       | none => rfl
       | some k => rw [hh] at h; simp at h
     rw [e, ih]
theorem dirtyAt_some {l : Frs} {i k : Nat} {f : Fr8} (hh : holds l (i : Int) = some k) (hk : l[k]? = some (some f)) : dirtyAt l i = if f.dirty = true then some ((i : Int), f.since) else none := by
 unfold dirtyAt
 rw [hh]
 simp only [List.getD_eq_getElem?_getD, hk, Option.getD_some]
theorem info_prow8 : (Tryz.prog.info? 92).map (fun i => (i.zero, i.size, i.bytes)) = some (some (.agg #[.int .i64 0, .int .i64 0]), 2, 16) := by kernel_rfl
section
variable {w : World} {F : Foot} {A : A8} {Y : Y8}
set_option maxRecDepth 100000 in
set_option maxHeartbeats 16000000 in
theorem poDirty_any (h : Pool8 w F A Y) : Calls Tryz.prog 24 #[.pointer (some ⟨A.q, 0, none⟩)] w fun e w' => ∃ v, e = .returned v ∧ w'.ownsRow w.heap.size 92 2 v (dirtyL Y.l).length (rows2 (dirtyL Y.l)) ∧ Below w.heap.size w w' := by
 obtain ⟨c0, c1, c2, c3, c4⟩ := h.isP.cells
 have HP : Hid (∀ W, Below w.heap.size w W → Pool8 W F A Y) := fun W hW => h.more hW
 have hw8 : ∀ i, (hm Y.l i).isSome = true → 0 ≤ i ∧ i < 8 := fun i hi => by
   rw [hm_isSome] at hi
   obtain ⟨k, hk⟩ := Option.isSome_iff_exists.1 hi
   have := h.ok.held_lt hk
   have := h.ok.n8
   omega
 have SRT : Hid (Calls Tryz.prog 56 #[.func (.func 88) #[] #[.pointer (some ⟨w.heap.size, 0, none⟩)]] (w.alloc (.cells #[.map (some A.m)] 98)) fun e w' => ∃ v : Value, e = .returned v ∧
     w'.ownsRow (w.alloc (.cells #[.map (some A.m)] 98)).heap.size 3 1 v (heldL Y.l).length (((heldL Y.l).map fun i : Nat => (i : Int)).map encZ) ∧ (v = .slice none 0 0 ↔ heldL Y.l = []) ∧ Below (w.alloc (.cells #[.map (some A.m)] 98)).heap.size (w.alloc (.cells #[.map (some A.m)] 98)) w') :=
   srt_sorted ((HP.out _ ((Below.refl _ _).alloc (Nat.le_refl _) _)).isP.map) hw8 w.heap.size ((Blk.new w 98 #[.map (some A.m)]).cell 0) (by simp)
 have HM : Hid (∀ i ∈ heldL Y.l, ∃ k f, holds Y.l (i : Int) = some k ∧ Y.l[k]? = some (some f)) := fun i hi => (heldL_mem hi).2
 have HD := Lib.hid (dirtyL_held Y.l)
 have hlen8 : (heldL Y.l).length ≤ 8 := by
   unfold heldL
   exact Nat.le_trans (List.length_filter_le _ _) (by simp)
 clear h hw8
 generalize hK : heldL Y.l = K at *
 clear hK
 go_enter Tryz.func24, Tryz.ntmps24
 go_wp2_with fail
 refine (srt_keys _ _).mono ?_
 rintro e w1 ⟨rfl, rfl⟩
 go_wp2_with fail
 refine SRT.out.mono ?_
 rintro e w2 ⟨v, rfl, hrow, hnil, hb2⟩
 obtain ⟨va, vc, rfl⟩ := own_slice hrow
 have HB2 := Lib.hid (below2 ((Below.refl _ _).alloc (Nat.le_refl _) (.cells #[.map (some A.m)] 98)) hb2)
 have HROW := Lib.hid hrow
 clear hrow hnil hb2 SRT c0 c1 c2 c3 c4
 go_wp2_with fail
 obtain ⟨i0, hi0, hz0, hz1, hz2⟩ := info_parts info_prow8
 have HI := Lib.hid (And.intro hi0 (And.intro hz0 (And.intro hz1 hz2)))
 clear hi0 hz0 hz1 hz2
 have hk8 : (K.length : Int) ≤ 8 := by omega
 have HB0 := Lib.hid hlen8
 clear hlen8
 go_loopw [3, 16] (fun vl vj wr => ∃ j : Nat, j ≤ K.length ∧ vj = .int .i64 j ∧ wr.ownsRow w.heap.size 92 2 vl ((K.take j).filterMap (dirtyAt Y.l)).length (rows2 ((K.take j).filterMap (dirtyAt Y.l))) ∧ Below w.heap.size w wr ∧
   wr.ownsRow (w.alloc (.cells #[.map (some A.m)] 98)).heap.size 3 1 (.slice va K.length vc) K.length ((K.map fun i : Nat => (i : Int)).map encZ)) (fun _ vj _ => K.length - (intOf vj).toNat)
 case atStart => exact ⟨0, Nat.zero_le _, rfl, ⟨by simp [rows2], .inl ⟨rfl, rfl⟩⟩, HB2.out, HROW.out⟩
 case round =>
   obtain ⟨j, hjk, rfl, hown, hb, hrow⟩ := hrel
   have HB := Lib.hid hb
   have HO := Lib.hid hown
   have HR := Lib.hid hrow
   clear hb hown hrow HB2 HROW
   by_cases hlt : j < K.length
   · have hj1 : (j : Int) < K.length := by omega
     obtain ⟨g2, cap, hv, hcap, hcm⟩ := own_form HR.out (by omega)
     cases hv
     have cj : wr.cell? ⟨g2, j, none⟩ = some (.int .i64 (K[j] : Nat)) := by
       rw [HR.out.cellAt j (by omega)]
       simp [encZ, hlt]
     have hmem : K[j] ∈ K := List.getElem_mem hlt
     obtain ⟨k, f, hh, hk⟩ := HM.out _ hmem
     have hdt := dirtyAt_some hh hk
     have htake : (K.take (j + 1)).filterMap (dirtyAt Y.l) = (K.take j).filterMap (dirtyAt Y.l) ++ (dirtyAt Y.l K[j]).toList := by
       rw [List.take_succ_eq_append_getElem hlt, List.filterMap_append]
       congr 1
     rw [hdt] at htake
     have HTK := Lib.hid htake
     have HH := Lib.hid hh
     have HK := Lib.hid hk
     have hkl := (List.getElem?_eq_some_iff.1 hk).1
     have hk1 : (k : Int) < Y.l.length := by omega
     clear hmem hh hk hdt htake hcap hcm
     generalize K[j] = i at *
     have C : Hid (∀ W, Below wr.heap.size wr W → Pool8 W F A Y) := fun W hW => HP.out W (HB.out.trans (hW.mono HB.out.size))
     go_upto_region 7 with fail
     refine' wp_region_conf 13 (.is _ :: .is _ :: .is _ :: .is _ :: .is _ :: .is _ :: .is _ :: .is _ :: .is _ :: .is _ :: .is _ :: .is _ :: .ptr wr.heap.size 104 #[.bool false, .int .i64 0, .int .i64 0, .string ⟨#[]⟩, .bool false, .int .i64 0] :: []) (by kernel_rfl) (by kernel_rfl) (by kernel_rfl) (by kernel_rfl) rfl ?main
     case main =>
       iterate 12
         refine obs_is (fun w4 hE4 _ => ?_) ?_
         · have hb4 := (Below.refl wr.heap.size wr).drew.trans hE4
           have q4 := (C.out w4 hb4).isP
           obtain ⟨c0, c1, c2, c3, c4⟩ := q4.cells
           obtain ⟨d0, d1, d2, d3, d4, d5⟩ := rowC6 q4.rows HK.out
           have LK := look_some1 q4.map HH.out
           clear q4 hE4
           go_wp2_with fail
           exact post_is (Below.refl _ _)
         simp only [Act.put, sA, sB, sC]
       refine obs_ptr (fun w4 hE4 _ => ?_) (fun x => ?_)
       · go_wp2
         exact ⟨_, rfl, ⟨w4.heap.size, hE4.size, rfl, Blk.new _ _ _⟩, (Below.refl _ _).alloc (Nat.le_refl _) _⟩
       simp only [Act.put, sA, sB, sC]
       refine obs_end fun w3 hE3 hkn => ?_
       obtain ⟨x, hx, rfl, hx1⟩ := hkn _ (List.mem_cons_self)
       have B3 := (Below.refl wr.heap.size wr).drew.trans hE3
       clear hkn hE3
       refine wpList_store_row rfl 104 _ _ rfl x (#[.bool true, .int .i64 f.no, .int .i64 f.pg.1, .string f.pg.2, .bool f.dirty, .int .i64 f.since]) rfl rfl 104 _ hx1 (by kernel_rfl) (by simp) (by simp [Value.oneCell']) ?_
       replace hx1 := hx1.setRow #[.bool true, .int .i64 f.no, .int .i64 f.pg.1, .string f.pg.2, .bool f.dirty, .int .i64 f.since]
       replace B3 := below_setRow B3 (g := x) hx #[.bool true, .int .i64 f.no, .int .i64 f.pg.1, .string f.pg.2, .bool f.dirty, .int .i64 f.since]
       simp only [Act.put]
       generalize w3.setRow x _ = w5 at *
       have HB3 := Lib.hid (HB.out.trans (B3.mono HB.out.size))
       have HO3 := Lib.hid (own_below HO.out B3)
       have HR3 := Lib.hid (own_below HR.out B3)
       have x4 := hx1.cell 4
       have x5 := hx1.cell 5
       simp at x4 x5
       have HX := Lib.hid hx1
       clear B3 C HO HR HB cj hx hx1
       by_cases hd : f.dirty = true
       · rw [hd] at x4
         rw [if_pos hd] at HTK
         simp only [Option.toList_some] at HTK
         clear hd
         obtain ⟨hi0, hz0, hz1, hz2⟩ := id HI.out
         have B4 : Below w5.heap.size w5 (w5.alloc (.cells #[.int .i64 (i : Int), .int .i64 f.since] 92)) := (Below.refl _ _).alloc (Nat.le_refl _) _
         have HO4 := Lib.hid (own_below HO3.out B4)
         have HR4 := Lib.hid (own_below HR3.out B4)
         have HB4 := Lib.hid (HB3.out.trans (B4.mono HB3.out.size))
         have hq4 := HB4.out.size
         have hlen : ((K.take j).filterMap (dirtyAt Y.l)).length ≤ 8 := Nat.le_trans (List.length_filterMap_le _ _) (by rw [List.length_take]; have := HB0.out; omega)
         clear B4 HO3 HR3 HB3
         go_wp2_with (at_builtin; refine wpList_append_lies _ rfl (.tmp 34) (.tmp 39) 47 rfl w.heap.size 92 i0 (.agg #[.int .i64 0, .int .i64 0]) 2 16 Tryz.underlying47 hi0 hz0 hz1 hz2 rfl (by decide) _ _ _ rfl HO4.out ⟨w5.heap.size, 0, none⟩ 1 1 [.int .i64 (i : Int), .int .i64 f.since] rfl rfl (World.news_of_block (heap_alloc_new w5 _)) (by simp [Value.oneCell']) (by omega) (by simp only [maxLen]; omega) (by omega) hq4 _ rfl ?_)
         intro g cap w6 hown hgrow hat hlt6
         have HB6 := Lib.hid (show Below w.heap.size w w6 from HB4.out.trans ⟨hgrow.os, hgrow.tape, hgrow.output, hgrow.size, fun b hb => hgrow.block b (Nat.lt_of_lt_of_le hb hq4) fun e => by have := (HO4.out.lt b e.symm).1; omega⟩)
         have HR6 := Lib.hid (own_keep HR4.out (w' := w6) fun b hb => hgrow.block b (HR4.out.lt b hb).2 fun e => own_apart HR4.out HO4.out (by decide) hb e.symm)
         have HO6 := Lib.hid hown
         clear hown hgrow hat HO4 HR4 HB4 hlt6 hq4
         go_wp2
         go_roundw
         case rel =>
           refine ⟨j + 1, by omega, by go_num, ?_, HB6.out, HR6.out⟩
           rw [HTK.out, rows2_snoc, List.length_append]
           exact HO6.out
         case measure => simp [intOf]; omega
       · have hd' : f.dirty = false := by simpa using hd
         rw [hd'] at x4
         rw [if_neg hd] at HTK
         simp only [Option.toList_none, List.append_nil] at HTK
         clear hd hd'
         go_wp2
         go_roundw
         case rel =>
           refine ⟨j + 1, by omega, by go_num, ?_, HB3.out, HR3.out⟩
           rw [HTK.out]
           exact HO3.out
         case measure => simp [intOf]; omega
   · obtain rfl : j = K.length := by omega
     have HO2 := HO.out
     rw [List.take_length, ← HD.out] at HO2
     have HO3 := Lib.hid HO2
     clear HO2 HO HR
     go_wp2
     go_ret
     exact ⟨_, rfl, HO3.out, HB.out⟩
end
end Go.Proofs.YtbplgbkbggmaeaaGreat

namespace Go.Proofs.YtbplgbkbggmaeaaGreat
open Go.RowKit
structure Live8 (w0 w : World) (F : Foot) (A : A8) (Y : Y8) : Prop where
 pool : Pool8 w F A Y
 newF : ∀ b, F b → w0.heap.size ≤ b
 below : Below w0.heap.size w0 w
namespace Live8
variable {w0 w w' : World} {F F' : Foot} {A : A8} {Y Y' : Y8}
theorem more (h : Live8 w0 w F A Y) (hb : Below w.heap.size w w') : Live8 w0 w' F A Y := ⟨h.pool.more hb, h.newF, h.below.trans (hb.mono h.below.size)⟩
theorem step (h : Live8 w0 w F A Y) (hp : Pool8 w' F' A Y') (st : Step F F' w w') : Live8 w0 w' F' A Y' := ⟨hp, st.from_ h.newF h.below.size, st.belowB h.newF h.below h.below.size⟩
end Live8
def Y8.new (f g : Nat) : Y8 := ⟨Dk.new 100, 1, Wl.new 30 g, List.replicate f none, 0, fun _ => emptyPg⟩
theorem Ok8.new {p f g : Nat} (p1 : 1 ≤ p) (p8 : p ≤ 8) (f1 : 1 ≤ f) (f8 : f ≤ 8) (g8 : 8 ≤ g) (g64 : g ≤ 64) : Ok8 0 p (Y8.new f g) :=
 ⟨by simp [Y8.new]; omega, by simpa [Y8.new] using f8, by simp [Y8.new]; omega, uniq_empty f, (fun k x hk => by
   have h := List.eq_of_mem_replicate (List.mem_of_getElem? hk)
   cases h), p1, p8, Dk.Ok.new (by omega) (by omega), Wl.Ok.new g8 g64 (by omega), by simp [Y8.new, Wl.new], by simp [Y8.new, Dk.new]; omega, by simp [Y8.new, Wl.new]; omega, by simp [Y8.new, Wl.new, Dk.new]; omega,
   Or.inr ⟨_, Calm7.new (by omega) (by omega) (by omega)⟩⟩
theorem results_tmp5 {P : Program} {fn : Func} {a b c d e : Tmp} (h : fn.results = #[.tmp a, .tmp b, .tmp c, .tmp d, .tmp e]) (tmps : Array Value) (w : World) :
   (results fn tmps).run P w = .ok (.tuple #[tmps.getD a undef, tmps.getD b undef, tmps.getD c undef, tmps.getD d undef, tmps.getD e undef]) w := by
 simp [results, h]
section
variable {w : World}
set_option maxRecDepth 100000 in
theorem logNew_bad (gd base : Nat) (n : Int) (hn : n < 8 ∨ 64 < n) :
   Calls Tryz.prog 36 #[.pointer (some ⟨gd, 0, none⟩), .int .i64 base, .int .i64 n] w fun e w' => e = .returned (.tuple #[.pointer none, .int .i64 1]) ∧ w = w' := by
 by_cases h1 : n < 8
 · have a1 : decide (n < 8) = true := by simp [h1]
   go_enter Tryz.func36, Tryz.ntmps36
   go_wp2
   go_ret2
   exact ⟨rfl, rfl⟩
 · have h8 : 64 < n := by omega
   have a1 : decide (n < 8) = false := by simp [h1]
   have a2 : decide (64 < n) = true := by simp [h8]
   go_enter Tryz.func36, Tryz.ntmps36
   go_wp2
   go_ret2
   exact ⟨rfl, rfl⟩
set_option maxRecDepth 100000 in
set_option maxHeartbeats 8000000 in
theorem made_ok (p f g : Nat) (p1 : 1 ≤ p) (p8 : p ≤ 8) (f1 : 1 ≤ f) (f8 : f ≤ 8) (g8 : 8 ≤ g) (g64 : g ≤ 64) :
   Calls Tryz.prog 4 #[.agg #[.int .i64 p, .int .i64 f, .int .i64 g]] w fun e w' => ∃ F A, e = .returned (.tuple #[.pointer (some ⟨A.gd, 0, none⟩), .pointer (some ⟨A.s, 0, none⟩), .pointer (some ⟨A.g, 0, none⟩), .pointer (some ⟨A.q, 0, none⟩), .int .i64 0]) ∧ Live8 w w' F A (Y8.new f g) ∧ A.n = p ∧ A.base = 0 := by
 have X0 := Blk.new w 23 #[.int .i64 p, .int .i64 f, .int .i64 g]
 have hb0 := (Below.refl w.heap.size w).alloc (Nat.le_refl _) (.cells #[.int .i64 p, .int .i64 f, .int .i64 g] 23)
 have hok := Ok8.new p1 p8 f1 f8 g8 g64
 have HOK := Lib.hid hok
 have NS := Lib.hid (fun (W : World) (FD : Foot) gd (h : IsDisk W FD gd (Dk.new 100)) => soNew_ok h 0 p p1 p8 (by simp [Dk.new]; omega))
 have NL := Lib.hid (fun (W : World) (FD : Foot) gd (h : IsDisk W FD gd (Dk.new 100)) => logNew_ok h 30 g g8 g64 (by simp [Dk.new]; omega))
 have NP := Lib.hid (fun (W : World) s l => poNew_ok (w := W) s l f f1 f8)
 clear hok p1 p8 f1 f8 g8 g64
 go_enter Tryz.func4, Tryz.ntmps4
 go_wp2_with fail
 have HB0 := Lib.hid hb0
 have HX0 := Lib.hid X0
 clear hb0 X0
 generalize w.alloc (.cells #[.int .i64 p, .int .i64 f, .int .i64 g] 23) = w1 at *
 refine (new_ok 100 w1 (by omega) (by omega)).mono ?_
 rintro e w2 ⟨gd, FD, rfl, hd, hFD, hb2⟩
 have HD := Lib.hid hd
 have HFD : Hid (∀ b, FD b → w.heap.size ≤ b ∧ b ≠ w.heap.size) := fun b hb => by have := hFD b hb; have := HX0.out.lt; have := HB0.out.size; omega
 have HB2 := Lib.hid (below2 HB0.out hb2)
 have x2 := HX0.out.keep hb2 HX0.out.lt
 have c20 := x2.cell 0
 simp at c20
 clear hd hFD hb2 HB0 HX0
 go_wp2_with fail
 refine (NS.out _ _ _ HD.out).mono ?_
 rintro e w3 ⟨s, rfl, hs, hge, hb3⟩
 have HS := Lib.hid hs
 have HG := Lib.hid (Nat.le_trans HB2.out.size hge)
 have HGD := Lib.hid hge
 have HB3 := Lib.hid (below2 HB2.out hb3)
 have x3 := x2.keep hb3 x2.lt
 have c32 := x3.cell 2
 simp at c32
 clear hs hge hb3 HB2 c20 HD NS
 go_wp2_with fail
 refine (NL.out _ _ _ HS.out.disk).mono ?_
 rintro e w4 ⟨l, rfl, hl, hgl, hb4⟩
 have HL := Lib.hid hl
 have HS4 := Lib.hid (HS.out.below hb4)
 have HGL := Lib.hid hgl
 have HB4 := Lib.hid (below2 HB3.out hb4)
 have x4 := x3.keep hb4 x3.lt
 have c41 := x4.cell 1
 simp at c41
 have hsl : s < w3.heap.size := HS.out.head.lt
 have hfl : Hid (∀ b, FD b → b < w3.heap.size) := fun b hb => HS.out.disk.lt b hb
 clear hl hb4 c32 HS NL
 go_wp2_with fail
 refine (NP.out _ s l).mono ?_
 rintro e w5 ⟨rfl, hp, hb5⟩
 have HP := Lib.hid hp
 have hlt4 : w3.heap.size ≤ l ∧ l < w4.heap.size := ⟨hgl, HL.out.lt l rfl⟩
 have h34 : w3.heap.size ≤ w4.heap.size := by omega
 have FIN : Hid (Live8 w w5 (F8 FD (· = l) ⟨w4.heap.size + 1 + 1, w4.heap.size, w4.heap.size + 1, s, l, gd, 0, p⟩) ⟨w4.heap.size + 1 + 1, w4.heap.size, w4.heap.size + 1, s, l, gd, 0, p⟩ (Y8.new f g)) := by
   refine ⟨⟨FD, (· = l), ⟨HS4.out.below hb5, HL.out.below hb5, HP.out gd 0 p, fun b hb e => ?_, fun e => ?_, fun b hb => ?_, HOK.out⟩, rfl⟩, fun b hb => ?_, below2 HB4.out hb5⟩
   · have := hfl.out b hb; omega
   · have e : s = l := e; omega
   · have hge : w4.heap.size ≤ b := by rcases hb with rfl | rfl | rfl <;> simp only <;> omega
     refine ⟨fun e => ?_, fun e => ?_, fun e => ?_⟩
     · have := hfl.out b e; omega
     · have e : b = s := e; omega
     · have e : b = l := e; omega
   · have h4 := HB4.out.size
     rcases hb with (hb | rfl) | rfl | hb
     · exact (HFD.out b hb).1
     · exact HG.out
     · have := HB3.out.size; omega
     · rcases hb with rfl | rfl | rfl <;> simp only <;> omega
 clear hp hb5 HP HL HS4 hlt4 h34 hsl hfl hgl
 go_wp2
 refine bodyPost_ret (results_tmp5 rfl _ _) rfl ?_
 exact ⟨_, ⟨w4.heap.size + 1 + 1, w4.heap.size, w4.heap.size + 1, s, l, gd, 0, p⟩, rfl, FIN.out, rfl, rfl⟩
end
end Go.Proofs.YtbplgbkbggmaeaaGreat
