/- Texts that belong together, joined: Base, Map, Foot, CopyW, Be, Rec, Only. -/
import Derived.WalkKit
import Derived.WalkLawsBesides
import Derived.Lib.Hide
import Derived.Laws.CopyOwn
import Derived.Laws.BytesArg
import Derived.Deep.MidRow
import Derived.Deep.DeepCutAuto
import Derived.StillTailTactics
import Derived.BigQuiet
import Derived.Deep.QuietTactic
import Derived.MapKept
import Derived.Maps.OwnSet
import Derived.Shelf.SlMaps.Clone
import Derived.Laws.OwnMore
import Derived.Deep.AppendLies
import Derived.Maps.AppendAt
namespace Go.Proofs.YthkbcfhjmnpggaaGreat
open Go.RowKit
theorem sA {α:Type _} (l:List α) (i:Nat) (a:α):l.toArray.setIfInBounds i a=(l.set i a).toArray:=List.setIfInBounds_toArray l i a
theorem sB {α:Type _} (xs:List α) (x y:α):(x::xs).set 0 y=y::xs:=rfl
theorem sC {α:Type _} (xs:List α) (x y:α) (n:Nat):(x::xs).set (n+1) y=x::xs.set n y:=rfl
def Blk (w:World) (g:Nat) (t:TypeId) (cs:Array Value):Prop:=w.heap[g]? = some (.cells cs t (0,0))
namespace Blk
variable {w w':World} {g:Nat} {t:TypeId} {cs:Array Value}
theorem lt (h:Blk w g t cs):g < w.heap.size:=(Array.getElem?_eq_some_iff.1 h).1
theorem cell (h:Blk w g t cs) (i:Nat):w.cell? ⟨g,i,none⟩=cs[i]?:=cell_of_row w g i cs t (0,0) h
theorem cellAt (h:Blk w g t cs) {i:Nat} (hi:i < cs.size):w.cell? ⟨g,i,none⟩=some cs[i]:=by rw [h.cell,Array.getElem?_eq_getElem hi]
theorem frozen (h:Blk w g t cs) (i:Nat):w.frozen? ⟨g,i,none⟩=false:=frozen_of_row w g i cs t h
theorem set (h:Blk w g t cs) (i:Nat) (v:Value):Blk (w.setCell ⟨g,i,none⟩ v) g t (cs.setIfInBounds i v):=heap_setCell_same w g i cs t v h
theorem setRow (h:Blk w g t cs) (cs':Array Value):Blk (w.setRow g cs') g t cs':=setRow_heap w g cs cs' t (0,0) h
theorem keep {B:Nat} (h:Blk w g t cs) (hb:Below B w w') (hg:g < B):Blk w' g t cs:=(hb.block g hg).trans h
theorem far (h:Blk w g t cs) {p:Addr} (hp:g≠p.block) (v:Value):Blk (w.setCell p v) g t cs:=(heap_setCell_other w p g v hp).trans h
theorem farRow (h:Blk w g t cs) {k:Nat} (hp:g≠k) (cs':Array Value):Blk (w.setRow k cs') g t cs:=(setRow_other w k g cs' hp).trans h
theorem new (w:World) (t:TypeId) (cs:Array Value):Blk (w.alloc (.cells cs t)) w.heap.size t cs:=heap_alloc_new w _
theorem alloc (h:Blk w g t cs) (o:Obj):Blk (w.alloc o) g t cs:=(Below.heap_alloc w o g h.lt).trans h
theorem drew (h:Blk w g t cs):Blk w.drew g t cs:=h
theorem drewN (h:Blk w g t cs) (n:Nat):Blk (w.drewN n) g t cs:=h
end Blk
theorem belowN {B:Nat} {a w:World} (h:Below B a w) (n:Nat):Below B a (w.drewN n):=⟨h.os,h.tape,h.output,h.size,h.block⟩
theorem below2 {a b c:World} (h:Below a.heap.size a b) (k:Below b.heap.size b c):Below a.heap.size a c:=h.trans (k.mono h.size)
theorem size_bytes (s:ByteArray):s.data.toList.length=s.size:=rfl
theorem str_ext {s t:ByteArray} (h:s.data.toList=t.data.toList):s=t:=by
 cases s; cases t; simp at h; simpa using h
theorem results_row_tmp {P:Program} {fn:Func} {p u:Tmp} {ty:TypeId} (h:fn.results=#[.cell p ty,.tmp u]) (tmps:Array Value) (w:World) (g:Nat) (t:TypeId) (cs:Array Value) (d:TypeDesc)
 (hp:tmps.getD p undef=.pointer (some ⟨g,0,none⟩)) (hg:Blk w g t cs)
 (hu:P.underlying ty=some d) (hd:(match d with | .struct _ | .array _ _=>true | _=>false)=true) (hi:(P.info? ty).map (·.size)=some cs.size) :
 (results fn tmps).run P w=.ok (.tuple #[.agg cs,tmps.getD u undef]) w:=by
 rw [results_cell_tmp h,hp]
 simp [asAddr,run_loadVar_row w g t ty cs (0,0) d hg hu hd hi]
theorem slice_str {P:Program} (t:TypeId) (ht:P.underlying t=some .string) (s:ByteArray) (lo hi:Nat) (k k':IntKind) (a b:Int) (ha:a=lo) (hb:b=hi) (h1:lo≤hi) (h2:hi≤s.size) (w:World) :
 (Instr.slice t (.string s) (some (.int k a)) (some (.int k' b)) none).run P w=.ok (.string (s.extract lo hi)) w:=by
 subst ha hb
 have:=run_slice_string (P:=P) w t s k k' lo hi ht (by omega) (by omega) (by omega)
 simpa using this
theorem slice_from {P:Program} (t:TypeId) (ht:P.underlying t=some .string) (s:ByteArray) (lo:Nat) (k:IntKind) (a:Int) (ha:a=lo) (h1:lo≤s.size) (w:World) :
 (Instr.slice t (.string s) (some (.int k a)) none none).run P w=.ok (.string (s.extract lo s.size)) w:=by
 subst ha
 have:=run_slice_string_l (P:=P) (w:=w) (t:=t) s ht k lo (by omega) (by omega)
 simpa using this
end Go.Proofs.YthkbcfhjmnpggaaGreat

namespace Go.Proofs.YthkbcfhjmnpggaaGreat
open Go.RowKit Go.MapKept
def findAt (l:List MapEntry) (i:Int):Option Value:=(l.find? fun e=>match e.key with | .int .i64 k=>k == i | _=>false).map (·.val)
structure Entries (l:List MapEntry):Prop where
 keys:∀ e ∈ l,∃ i,e.key=.int .i64 i
 apart:l.Pairwise fun a b=>a.key≠b.key
def IsMap (w:World) (b:Nat) (f:Int→Option Value):Prop :=
 ∃ es clock,w.heap[b]? = some (.map es clock)∧Entries es.toList∧∀ i,findAt es.toList i=f i
theorem findAt_cons (e:MapEntry) (l:List MapEntry) (k i:Int) (h:e.key=.int .i64 k):findAt (e::l) i=if k=i then some e.val else findAt l i:=by
 unfold findAt
 rw [List.find?_cons]
 simp only [h]
 by_cases g:k=i
 · simp [g]
 ·have:(k == i)=false:=by simpa using g
  simp [this,g]
theorem Entries.tail {e:MapEntry} {l:List MapEntry} (h:Entries (e::l)):Entries l:=⟨fun x hx=>h.keys x (.tail _ hx),(List.pairwise_cons.1 h.apart).2⟩
theorem findAt_none {l:List MapEntry} (h:Entries l) (i:Int) (hn:∀ e ∈ l,e.key≠.int .i64 i):findAt l i=none:=by
 induction l with
 | nil=>rfl
 | cons e l ih =>
   obtain ⟨k,hk⟩:=h.keys e (.head _)
   rw [findAt_cons e l k i hk,if_neg (fun g=>hn e (.head _) (by rw [hk,g])),ih h.tail fun x hx=>hn x (.tail _ hx)]
theorem findAt_some {l:List MapEntry} (h:Entries l) (i:Int) {j:Nat} {e:MapEntry} (hj:l[j]? = some e) (hk:e.key=.int .i64 i):findAt l i=some e.val:=by
 induction l generalizing j with
 | nil=>simp at hj
 | cons x l ih =>
   obtain ⟨k,hx⟩:=h.keys x (.head _)
   rw [findAt_cons x l k i hx]
   cases j with
   | zero =>
     simp only [List.getElem?_cons_zero,Option.some.injEq] at hj
     subst hj
     rw [hx] at hk
     simp only [Value.int.injEq,true_and] at hk
     rw [if_pos hk]
   | succ j =>
     simp only [List.getElem?_cons_succ] at hj
     have hm:e ∈ l:=List.mem_of_getElem? hj
     have hne:=(List.pairwise_cons.1 h.apart).1 e hm
     rw [if_neg (fun g=>hne (by rw [hx,hk,g])),ih h.tail hj]
theorem findAt_append (l r:List MapEntry) (i:Int):findAt (l++r) i=(findAt l i).or (findAt r i):=by
 unfold findAt
 rw [List.find?_append]
 cases List.find? _ l <;> simp
theorem findAt_set {l:List MapEntry} (h:Entries l) (i:Int) (v:Value) {j:Nat} {e:MapEntry} (hj:l[j]? = some e) (hk:e.key=.int .i64 i) (c:Int) :
 findAt (l.set j { e with key:=.int .i64 i,val:=v }) c=if c=i then some v else findAt l c:=by
 induction l generalizing j with
 | nil=>simp at hj
 | cons x l ih =>
   obtain ⟨k,hx⟩:=h.keys x (.head _)
   cases j with
   | zero =>
     simp only [List.getElem?_cons_zero,Option.some.injEq] at hj
     subst hj
     rw [hx] at hk
     simp only [Value.int.injEq,true_and] at hk
     subst hk
     rw [List.set_cons_zero,findAt_cons _ _ k c rfl,findAt_cons x l k c hx]
     by_cases g:k=c
     · subst g; simp
     · rw [if_neg g,if_neg g,if_neg (Ne.symm g)]
   | succ j =>
     simp only [List.getElem?_cons_succ] at hj
     rw [List.set_cons_succ,findAt_cons _ _ k c hx,findAt_cons x l k c hx,ih h.tail hj]
     have hne:=(List.pairwise_cons.1 h.apart).1 e (List.mem_of_getElem? hj)
     by_cases g:k=c
     ·subst g
      rw [if_pos rfl,if_pos rfl,if_neg (fun g=>hne (by rw [hx,hk,g]))]
     · rw [if_neg g,if_neg g]
theorem Entries.isKey {l:List MapEntry} (h:Entries l):∀ x ∈ l,IsKey (.int .i64) x.key:=fun x hx=>by
 obtain ⟨i,hi⟩:=h.keys x hx
 rw [hi]; simp [IsKey]
theorem Entries.push {l:List MapEntry} (h:Entries l) (i:Int) (v:Value) (c:Nat) (hn:∀ e ∈ l,e.key≠.int .i64 i):Entries (l++[{ key:=.int .i64 i,val:=v,born:=c }]) :=
 ⟨fun e he=>by
   rcases List.mem_append.1 he with he | he
   · exact h.keys e he
   · simp at he; subst he; exact ⟨i,rfl⟩,
  List.pairwise_append.2 ⟨h.apart,by simp,fun a ha b hb=>by simp at hb; subst hb; exact hn a ha⟩⟩
theorem Entries.set {l:List MapEntry} (h:Entries l) (i:Int) (v:Value) {j:Nat} {e:MapEntry} (hj:l[j]? = some e) (hk:e.key=.int .i64 i):Entries (l.set j { e with key:=.int .i64 i,val:=v }):=by
 have hm:(l.set j { e with key:=.int .i64 i,val:=v }).map (·.key)=l.map (·.key):=by
  rw [List.map_set]
  apply List.ext_getElem?
  intro n
  rw [List.getElem?_set]
  by_cases g:j=n
  ·subst g
   rw [if_pos rfl,List.getElem?_map,hj]
   simp [List.getElem?_eq_some_iff] at hj
   obtain ⟨hlt,_⟩:=hj
   simp [hlt,hk]
  · rw [if_neg g]
 refine ⟨fun x hx=>?_,?_⟩
 ·have:x.key ∈ l.map (·.key):=hm ▸ List.mem_map.2 ⟨x,hx,rfl⟩
  obtain ⟨y,hy,e⟩:=List.mem_map.1 this
  rw [← e]; exact h.keys y hy
 ·have:(l.map (·.key)).Pairwise (·≠·):=List.pairwise_map.2 h.apart
  rw [← hm] at this
  exact List.pairwise_map.1 this
theorem Entries.none:Entries []:=⟨fun e he=>by simp at he,List.Pairwise.nil⟩
namespace IsMap
variable {P:Program} {w w':World} {b:Nat} {f:Int→Option Value}
theorem keep (h:IsMap w b f) (e:w'.heap[b]? = w.heap[b]?):IsMap w' b f:=by obtain ⟨es,c,hb,h⟩:=h; exact ⟨es,c,e.trans hb,h⟩
theorem drew (h:IsMap w b f):IsMap w.drew b f:=h.keep rfl
theorem congr {g:Int→Option Value} (h:IsMap w b f) (e:∀ i,f i=g i):IsMap w b g:=by obtain ⟨es,c,hb,h,k⟩:=h; exact ⟨es,c,hb,h,fun i=>(k i).trans (e i)⟩
theorem made (w:World):IsMap (w.alloc (.map #[] 0)) w.heap.size fun _=>none:=⟨#[],0,(heap_alloc w _).1,.none,fun _=>rfl⟩
theorem cells {g:Nat} {t:TypeId} {cs:Array Value} (h:IsMap w b f) (k:Blk w g t cs):g≠b:=by
 rintro rfl
 obtain ⟨es,c,hb,_⟩:=h
 unfold Blk at k
 rw [hb] at k
 cases k
variable {t kt et:TypeId} (ht:P.underlying t=some (.map kt et)) (hk:P.underlying kt=some (.int .i64))
include ht hk
theorem look (h:IsMap w b f) (i:Int) {z:Value} (hz:(zeroValue et).run P w=.ok z w) :
 (Instr.lookup t (.map (some b)) (.int .i64 i) true).run P w=.ok (.tuple #[(f i).getD z,.bool (f i).isSome]) w:=by
 obtain ⟨es,clock,hb,F,hf⟩:=h
 rcases findNow_spec (d:=.int .i64) (k:=.int .i64 i) (by simp [IsKey]) es.toList 0 F.isKey with ⟨h1,h2⟩ | ⟨j,e,h1,h2,h3⟩
 ·rw [← hf i,findAt_none F i h2]
  simp [Instr.lookup,run_underlying ht,MapKept.run_getObj_map hb,MapKept.run_checkKey hk (show IsKey (.int .i64) (.int .i64 i) by simp [IsKey]),MapKept.run_findKey hk h1,Result.andThen,hz]
 ·rw [← hf i,findAt_some F i h2 h3]
  simp [Instr.lookup,run_underlying ht,MapKept.run_getObj_map hb,MapKept.run_checkKey hk (show IsKey (.int .i64) (.int .i64 i) by simp [IsKey]),MapKept.run_findKey hk h1,Result.andThen]
theorem put (h:IsMap w b f) (i:Int) (v:Value) :
 ∃ o,(Instr.mapUpdate t (.map (some b)) (.int .i64 i) v).run P w=.ok () { w with heap:=w.heap.setIfInBounds b o }∧IsMap { w with heap:=w.heap.setIfInBounds b o } b fun c=>if c=i then some v else f c:=by
 obtain ⟨es,clock,hb,F,hf⟩:=h
 rcases findNow_spec (d:=.int .i64) (k:=.int .i64 i) (by simp [IsKey]) es.toList 0 F.isKey with ⟨h1,h2⟩ | ⟨j,e,h1,h2,h3⟩
 ·refine ⟨.map (es.push { key:=.int .i64 i,val:=v,born:=clock }) (clock+1),?_,_,_,(heap_set hb).1,?_,?_⟩
  · simp [Instr.mapUpdate,run_underlying ht,MapKept.run_getObj_map hb,MapKept.run_checkKey hk (show IsKey (.int .i64) (.int .i64 i) by simp [IsKey]),MapKept.run_findKey hk h1,MapKept.run_setObj_map _ hb,Result.andThen]
  · rw [Array.toList_push]; exact F.push i v clock h2
  ·intro c
   rw [Array.toList_push,findAt_append,hf c,findAt_cons _ _ i c rfl]
   by_cases g:c=i
   ·subst g
    rw [← hf c,findAt_none F c h2]
    simp
   ·show _=if c=i then some v else f c
    rw [if_neg g,if_neg (Ne.symm g)]
    cases f c <;> rfl
 ·have hj:es[j]? = some e:=by simpa using h2
  have eset:(es.modify j fun e=>{ e with key:=.int .i64 i,val:=v }).toList=es.toList.set j { e with key:=.int .i64 i,val:=v }:=by
   apply List.ext_getElem?
   intro n
   rw [List.getElem?_set,Array.getElem?_toList,Array.getElem?_modify]
   by_cases g:j=n
   ·subst g
    have hlt:j < es.toList.length:=(List.getElem?_eq_some_iff.1 h2).1
    rw [if_pos rfl,if_pos rfl,hj]
    simp only [Option.map_some]
    rw [if_pos hlt]
   · rw [if_neg g,if_neg g,Array.getElem?_toList]
  refine ⟨.map (es.modify j fun e=>{ e with key:=.int .i64 i,val:=v }) clock,?_,_,_,(heap_set hb).1,?_,?_⟩
  · simp [Instr.mapUpdate,run_underlying ht,MapKept.run_getObj_map hb,MapKept.run_checkKey hk (show IsKey (.int .i64) (.int .i64 i) by simp [IsKey]),MapKept.run_findKey hk h1,hj,h3,run_keyThatStays (show IsKey (.int .i64) (.int .i64 i) by simp [IsKey]),MapKept.run_setObj_map _ hb,Result.andThen]
  · rw [eset]; exact F.set i v h2 h3
  ·intro c
   rw [eset,findAt_set F i v h2 h3,hf c]
omit hk in
theorem clear (h:IsMap w b f) (ty:TypeId) :
 ∃ o,(Builtin.clear_ #[t] ty #[.map (some b)]).run P w=.ok (.tuple #[]) { w with heap:=w.heap.setIfInBounds b o }∧IsMap { w with heap:=w.heap.setIfInBounds b o } b fun _=>none:=by
 obtain ⟨es,clock,hb,F,hf⟩:=h
 exact ⟨.map #[] clock,by simp [Builtin.clear_,run_underlying ht,MapKept.run_getObj_map hb,MapKept.run_setObj_map _ hb,Result.andThen],_,_,(heap_set hb).1,.none,fun _=>rfl⟩
end IsMap
end Go.Proofs.YthkbcfhjmnpggaaGreat

namespace Go.Proofs.YthkbcfhjmnpggaaGreat
open Go.RowKit
abbrev Foot:=Nat→Prop
structure Step (F F':Foot) (w w':World):Prop where
 os:w'.os=w.os
 tape:w'.tape=w.tape
 output:w'.output=w.output
 size:w.heap.size≤w'.heap.size
 block:∀ b,b < w.heap.size→¬ F b→w'.heap[b]? = w.heap[b]?
 foot:∀ b,F' b→F b∨w.heap.size≤b
namespace Step
variable {F F' F'':Foot} {w w' w'':World}
theorem refl (F:Foot) (w:World):Step F F w w:=⟨rfl,rfl,rfl,Nat.le_refl _,fun _ _ _=>rfl,fun _ h=>.inl h⟩
theorem trans (h:Step F F' w w') (k:Step F' F'' w' w''):Step F F'' w w'' :=
 ⟨k.os.trans h.os,k.tape.trans h.tape,k.output.trans h.output,Nat.le_trans h.size k.size,
  fun b hb hf=>(k.block b (Nat.lt_of_lt_of_le hb h.size) fun g=>(h.foot b g).elim hf (by omega)).trans (h.block b hb hf),
  fun b hb=>(k.foot b hb).elim (fun g=>h.foot b g) (fun g=>.inr (Nat.le_trans h.size g))⟩
theorem ofBelow (h:Below w.heap.size w w'):Step F F w w':=⟨h.os,h.tape,h.output,h.size,fun b hb _=>h.block b hb,fun _ g=>.inl g⟩
theorem belowB {B:Nat} {a:World} (h:Step F F' w w') (hF:∀ b,F b→B≤b) (k:Below B a w) (hB:B≤w.heap.size):Below B a w' :=
 ⟨h.os.trans k.os,h.tape.trans k.tape,h.output.trans k.output,Nat.le_trans k.size h.size,fun b hb=>(h.block b (by omega) fun g=>by have:=hF b g; omega).trans (k.block b hb)⟩
theorem from_ {B:Nat} (h:Step F F' w w') (hF:∀ b,F b→B≤b) (hB:B≤w.heap.size):∀ b,F' b→B≤b:=fun b hb=>(h.foot b hb).elim (hF b) (fun g=>Nat.le_trans hB g)
theorem drew (h:Step F F' w w'):Step F F' w w'.drew:=⟨h.os,h.tape,h.output,h.size,h.block,h.foot⟩
theorem more (h:Step F F' w w') (k:Below w'.heap.size w' w''):Step F F' w w'':=h.trans (.ofBelow k)
theorem alloc (h:Step F F' w w') (o:Obj):Step F F' w (w'.alloc o):=h.more ((Below.refl _ _).alloc (Nat.le_refl _) _)
theorem set (h:Step F F' w w') {p:Addr} (hp:F' p.block) (v:Value):Step F F' w (w'.setCell p v) :=
 h.trans ⟨rfl,rfl,rfl,by simp [World.setCell],fun b _ hf=>Below.heap_setCell w' p v b (fun e=>hf (e ▸ hp)),fun _ g=>.inl g⟩
theorem setObj (h:Step F F' w w') {b:Nat} (hb:F' b) (o:Obj):Step F F' w { w' with heap:=w'.heap.setIfInBounds b o } :=
 h.trans ⟨rfl,rfl,rfl,by simp,fun i _ hf=>(show (w'.heap.setIfInBounds b o)[i]? = _ by rw [Array.getElem?_setIfInBounds,if_neg (fun e:b=i=>hf (e ▸ hb))]),fun _ g=>.inl g⟩
theorem grown (h:Step F F' w w') {row:Option Nat} (hg:w'.grownBy w'' row) (hr:∀ b,row=some b→F' b):Step F F' w w'' :=
 h.trans ⟨hg.os,hg.tape,hg.output,hg.size,fun b hb hf=>hg.block b hb fun e=>hf (hr b e.symm),fun _ g=>.inl g⟩
theorem widen (h:Step F F' w w'):Step F (fun b=>F' b∨(w.heap.size≤b∧b < w'.heap.size)) w w' :=
 ⟨h.os,h.tape,h.output,h.size,h.block,fun b g=>g.elim (h.foot b) fun g=>.inr g.1⟩
end Step
section
variable {w w':World} {base size n:Nat} {e:TypeId} {v:Value} {xs:List Value} {F:Foot}
theorem own_keep (h:w.ownsRow base e size v n xs) (hk:∀ b,v.ownBlock=some b→w'.heap[b]? = w.heap[b]?):w'.ownsRow base e size v n xs:=by
 obtain ⟨hl,h | ⟨g,cap,cur,rfl,hb,hg,h1,h2,h3,h4⟩⟩:=h
 · exact ⟨hl,.inl h⟩
 · exact ⟨hl,.inr ⟨g,cap,cur,rfl,hb,(hk g rfl).trans hg,h1,h2,h3,h4⟩⟩
theorem own_below (h:w.ownsRow base e size v n xs) (hb:Below w.heap.size w w'):w'.ownsRow base e size v n xs:=own_keep h fun b hv=>hb.block b (h.lt b hv).2
theorem own_apart {e' size' n':Nat} {base':Nat} {v':Value} {xs':List Value} (h:w.ownsRow base e size v n xs) (h':w.ownsRow base' e' size' v' n' xs') (hne:e≠e') {b:Nat} (hv:v.ownBlock=some b):v'.ownBlock≠some b:=by
 intro hv'
 obtain ⟨_,⟨rfl,_⟩ | ⟨g,cap,cur,rfl,_,hg,_⟩⟩:=h
 · simp [Value.ownBlock] at hv
 obtain ⟨_,⟨rfl,_⟩ | ⟨g',cap',cur',rfl,_,hg',_⟩⟩:=h'
 · simp [Value.ownBlock] at hv'
 simp only [Value.ownBlock,Option.some.injEq] at hv hv'
 subst hv; subst hv'
 rw [hg] at hg'
 simp only [Option.some.injEq,Obj.cells.injEq] at hg'
 exact hne hg'.2.1
theorem own_blk {t:TypeId} {g:Nat} {cs:Array Value} (h:w.ownsRow base e size v n xs) (hb:Blk w g t cs) (hne:e≠t):v.ownBlock≠some g:=by
 intro hv
 obtain ⟨_,⟨rfl,_⟩ | ⟨g',cap,cur,rfl,_,hg,_⟩⟩:=h
 · simp [Value.ownBlock] at hv
 simp only [Value.ownBlock,Option.some.injEq] at hv
 subst hv
 unfold Blk at hb
 rw [hg] at hb
 simp only [Option.some.injEq,Obj.cells.injEq] at hb
 exact hne hb.2.1
theorem own_map {f:Int→Option Value} {g:Nat} (h:w.ownsRow base e size v n xs) (hb:IsMap w g f):v.ownBlock≠some g:=by
 intro hv
 obtain ⟨_,⟨rfl,_⟩ | ⟨g',cap,cur,rfl,_,hg,_⟩⟩:=h
 · simp [Value.ownBlock] at hv
 simp only [Value.ownBlock,Option.some.injEq] at hv
 subst hv
 obtain ⟨es,c,hb,_⟩:=hb
 rw [hg] at hb
 cases hb
theorem own_form (h:w.ownsRow base e size v n xs) (hn:0 < n):∃ g cap,v=.slice (some ⟨g,0,none⟩) n cap∧n≤cap∧cap≤maxLen:=by
 obtain ⟨_,⟨rfl,h0⟩ | ⟨g,cap,cur,rfl,_,_,h1,h2,_⟩⟩:=h
 · omega
 · exact ⟨g,cap,rfl,h1,h2⟩
theorem own_any (h:w.ownsRow base e size v n xs):(v=.slice none 0 0∧n=0∧xs = [])∨∃ g cap,v=.slice (some ⟨g,0,none⟩) n cap∧n≤cap∧cap≤maxLen:=by
 obtain ⟨hl,⟨rfl,rfl⟩ | ⟨g,cap,cur,rfl,_,_,h1,h2,_⟩⟩:=h
 · exact .inl ⟨rfl,rfl,List.eq_nil_of_length_eq_zero (by omega)⟩
 · exact .inr ⟨g,cap,rfl,h1,h2⟩
theorem own_slice (h:w.ownsRow base e size v n xs):∃ ra rc,v=.slice ra n rc:=by
 rcases own_any h with ⟨rfl,rfl,_⟩ | ⟨q,c,rfl,_⟩
 · exact ⟨none,0,rfl⟩
 · exact ⟨_,_,rfl⟩
end
end Go.Proofs.YthkbcfhjmnpggaaGreat

namespace Go.Proofs.YthkbcfhjmnpggaaGreat
open Go.RowKit
section
variable {P:Program}
theorem run_copy_wide (w:World) (dT sT ty elem:TypeId) (c g n:Nat) (a:Addr) (sCap:Nat) (cur:Array Value) (t:TypeId) (cs:List Value)
 (hu:P.underlying dT=some (.slice elem)) (hs:(P.info? elem).map (·.size)=some c)
 (hg:Blk w g t cur) (hn:cs.length=n*c) (hsrc:∀ j v,cs[j]? = some v→w.cell? (a.add j)=some v) (hfit:cur.size=cs.length) (h1:∀ v ∈ cs,v.oneCell' = true) :
 (Builtin.copy_ #[dT,sT] ty #[.slice (some ⟨g,0,none⟩) n n,.slice (some a) n sCap]).run P w=.ok (goInt n) (w.setRow g cs.toArray):=by
 have hl:=run_loadCells_list (P:=P) w a cs hsrc
 have hst:=run_storeCells_at P g 0 t cs 0 cur w hg (by omega) h1
 rw [List.take_zero,List.nil_append,Nat.zero_add,List.drop_of_length_le (by rw [Array.length_toList]; omega),List.append_nil] at hst
 cases hq:P.info? elem with
 | none=>simp [hq] at hs
 | some i =>
   have hi:i.size=c:=by simpa [hq] using hs
   have hmin:Nat.min n n=n:=Nat.min_self n
   simp [Builtin.copy_,run_underlying hu,Builtin.lenOf,Builtin.firstCells,sizeOf,typeInfo,hq,hi,hmin,← hn,hl,hst]
theorem run_copy_wide_none (w:World) (dT sT ty elem:TypeId) (c:Nat) (d a:Option Addr) (dCap sCap:Nat) (hu:P.underlying dT=some (.slice elem)) (hs:(P.info? elem).map (·.size)=some c) :
 (Builtin.copy_ #[dT,sT] ty #[.slice d 0 dCap,.slice a 0 sCap]).run P w=.ok (goInt 0) w:=by
 cases hq:P.info? elem with
 | none=>simp [hq] at hs
 | some i =>
   have hl:∀ (x:Addr),(loadCells x 0).run P w=.ok #[] w:=fun x=>by simpa using run_loadCells_list (P:=P) w x [] (by simp)
   cases d <;> cases a <;> simp [Builtin.copy_,run_underlying hu,Builtin.lenOf,Builtin.firstCells,sizeOf,typeInfo,hq,storeCells,hl]
end
theorem Blk.same {w:World} {g t:Nat} {cs:Array Value} (h:Blk w g t cs) (i:Nat) (v:Value) (hv:cs[i]? = some v):Blk (w.setCell ⟨g,i,none⟩ v) g t cs:=by
 have:=h.set i v
 have e:cs.setIfInBounds i v=cs:=by
  refine Array.ext_getElem? fun j=>?_
  rw [Array.getElem?_setIfInBounds]
  by_cases hj:i=j
  ·subst hj
   obtain ⟨hlt,_⟩:=Array.getElem?_eq_some_iff.1 hv
   rw [if_pos rfl,if_pos hlt,hv]
  · rw [if_neg hj]
 rwa [e] at this
theorem own_ofBlk {w:World} {B g t n c:Nat} {cs:Array Value} (h:Blk w g t cs) (hB:B≤g) (hn:n≤maxLen) (hs:cs.size=n*c):w.ownsRow B t c (.slice (some ⟨g,0,none⟩) n n) n cs.toList :=
 ⟨by rw [Array.length_toList]; exact hs,.inr ⟨g,n,cs,rfl,hB,h,Nat.le_refl _,hn,hs,List.take_of_length_le (by rw [Array.length_toList,hs]; exact Nat.le_refl _)⟩⟩
theorem setCell_same {w:World} {g t:Nat} {cs:Array Value} (h:Blk w g t cs) (i:Nat) (v:Value) (hv:cs[i]? = some v):Below w.heap.size w (w.setCell ⟨g,i,none⟩ v):=by
 refine ⟨rfl,rfl,rfl,by simp [World.setCell],fun b _=>?_⟩
 by_cases e:b=g
 · subst e; exact (h.same i v hv).trans h.symm
 · exact heap_setCell_other w ⟨g,i,none⟩ b v e
end Go.Proofs.YthkbcfhjmnpggaaGreat

namespace Go.Proofs.YthkbcfhjmnpggaaGreat
open Go.RowKit
def be4 (n:Nat):List UInt8:=[UInt8.ofNat (n / 16777216),UInt8.ofNat (n / 65536),UInt8.ofNat (n / 256),UInt8.ofNat n]
theorem be4_len (n:Nat):(be4 n).length=4:=rfl
end Go.Proofs.YthkbcfhjmnpggaaGreat

namespace Go.Proofs.YthkbcfhjmnpggaaGreat
open Go.RowKit
def beI (n:Int):List UInt8:=be4 (n % 4294967296).toNat
def lowI (n:Int):UInt8:=UInt8.ofNat (n % 256).toNat
theorem beI_len (n:Int):(beI n).length=4:=rfl
abbrev Row3:=Int × Int × Int
abbrev Row2:=Int × Int
structure Rc where
 kind:Int
 txn:Int
 page:Int
 off:Int
 prev:Int
 next:Int
 beg:Int
 before:ByteArray
 after:ByteArray
 txns:List Row3
 pages:List Row2
deriving DecidableEq
namespace Rc
theorem ext11 {a b:Rc} (h1:a.kind=b.kind) (h2:a.txn=b.txn) (h3:a.page=b.page) (h4:a.off=b.off) (h5:a.prev=b.prev) (h6:a.next=b.next) (h7:a.beg=b.beg) (h8:a.before=b.before) (h9:a.after=b.after) (h10:a.txns=b.txns) (h11:a.pages=b.pages):a=b:=by
 cases a; cases b; simp only at h1 h2 h3 h4 h5 h6 h7 h8 h9 h10 h11; simp only [h1,h2,h3,h4,h5,h6,h7,h8,h9,h10,h11]
def nil:Rc:=⟨0,0,0,0,0,0,0,⟨#[]⟩,⟨#[]⟩,[],[]⟩
def upd (t p pg o:Int) (b a:ByteArray):Rc:=⟨1,t,pg,o,p,0,0,b,a,[],[]⟩
def und (t p n pg o:Int) (a:ByteArray):Rc:=⟨2,t,pg,o,p,n,0,⟨#[]⟩,a,[],[]⟩
def com (k t p:Int):Rc:=⟨k,t,0,0,p,0,0,⟨#[]⟩,⟨#[]⟩,[],[]⟩
def tab (b:Int) (ts:List Row3) (ps:List Row2):Rc:=⟨6,0,0,0,0,0,b,⟨#[]⟩,⟨#[]⟩,ts,ps⟩
def begin5:Rc:=com 5 0 0
end Rc
def Num (n:Int):Prop:=0≤n∧n≤2147483647
instance (n:Int):Decidable (Num n):=inferInstanceAs (Decidable (_∧_))
def Spot (pg o:Int) (a:ByteArray):Prop:=(0≤pg∧pg≤7)∧0≤o∧(1≤a.size∧a.size≤16)∧o+a.size≤220
instance (pg o:Int) (a:ByteArray):Decidable (Spot pg o a):=inferInstanceAs (Decidable (_∧_))
def Row3Ok (x:Row3):Prop:=1≤x.1∧Num x.1∧Num x.2.1∧Num x.2.2
instance (x:Row3):Decidable (Row3Ok x):=inferInstanceAs (Decidable (_∧_))
def Row2Ok (x:Row2):Prop:=(0≤x.1∧x.1≤7)∧Num x.2
instance (x:Row2):Decidable (Row2Ok x):=inferInstanceAs (Decidable (_∧_))
inductive May:Rc→Prop
 | upd {t p pg o:Int} {b a:ByteArray} (ht:1≤t) (hn:Num t) (hp:Num p) (hs:Spot pg o a) (hb:b.size=a.size):May (.upd t p pg o b a)
 | und {t p n pg o:Int} {a:ByteArray} (ht:1≤t) (hn:Num t) (hp:Num p) (hx:Num n) (hs:Spot pg o a):May (.und t p n pg o a)
 | com {k t p:Int} (hk:k=3∨k=4) (ht:1≤t) (hn:Num t) (hp:Num p):May (.com k t p)
 | beg:May .begin5
 | tab {b:Int} {ts:List Row3} {ps:List Row2} (hb:Num b) (ht:ts.length≤4) (hp:ps.length≤8) (h3:∀ x ∈ ts,Row3Ok x) (h2:∀ x ∈ ps,Row2Ok x):May (.tab b ts ps)
def enc3 (x:Row3):List UInt8:=beI x.1++beI x.2.1++beI x.2.2
def enc2 (x:Row2):List UInt8:=lowI x.1::beI x.2
def encTab (r:Rc):List UInt8:=beI r.beg++[lowI r.txns.length]++r.txns.flatMap enc3++[lowI r.pages.length]++r.pages.flatMap enc2
def lay (r:Rc):List UInt8 :=
 [lowI r.kind]++(if r.kind≤4 then beI r.txn++beI r.prev else []) ++
 (if r.kind=2 then beI r.next else []) ++
 (if r.kind=1∨r.kind=2 then [lowI r.page,lowI r.off,lowI r.after.size]++r.before.data.toList++r.after.data.toList else []) ++
 (if r.kind=6 then encTab r else [])
def smallP (lo hi:Int):List UInt8→Option (Int × List UInt8)
 | []=>none
 | b::l=>if lo≤(b.toNat:Int)∧(b.toNat:Int)≤hi then some ((b.toNat:Int),l) else none
def val4 (a b c d:UInt8):Nat:=a.toNat*16777216+b.toNat*65536+c.toNat*256+d.toNat
def numP (lo:Int):List UInt8→Option (Int × List UInt8)
 | a::b::c::d::l=>if lo≤(val4 a b c d:Int)∧(val4 a b c d:Int)≤2147483647 then some ((val4 a b c d:Int),l) else none
 | _=>none
def txtP (n:Nat) (l:List UInt8):Option (ByteArray × List UInt8):=if n≤l.length then some (⟨(l.take n).toArray⟩,l.drop n) else none
def manyP {α:Type} (p:List UInt8→Option (α × List UInt8)):Nat→List UInt8→Option (List α × List UInt8)
 | 0,l=>some ([],l)
 | n+1,l=>(p l).bind fun x=>(manyP p n x.2).map fun y=>(x.1::y.1,y.2)
def row3P (l:List UInt8):Option (Row3 × List UInt8) :=
 (numP 1 l).bind fun a=>(numP 0 a.2).bind fun b=>(numP 0 b.2).map fun c=>((a.1,b.1,c.1),c.2)
def row2P (l:List UInt8):Option (Row2 × List UInt8) :=
 (smallP 0 7 l).bind fun a=>(numP 0 a.2).map fun b=>((a.1,b.1),b.2)
def changeP (r:Rc) (l:List UInt8):Option (Rc × List UInt8) :=
 (smallP 0 7 l).bind fun pg=>(smallP 0 219 pg.2).bind fun o=>(smallP 1 (min 16 (220 - o.1)) o.2).bind fun n =>
   if r.kind=1 then (txtP n.1.toNat n.2).bind fun b=>(txtP n.1.toNat b.2).map fun a=>({ r with page:=pg.1,off:=o.1,before:=b.1,after:=a.1 },a.2)
   else (txtP n.1.toNat n.2).map fun a=>({ r with page:=pg.1,off:=o.1,after:=a.1 },a.2)
def tablesP (r:Rc) (l:List UInt8):Option (Rc × List UInt8) :=
 (numP 0 l).bind fun b=>(smallP 0 4 b.2).bind fun n=>(manyP row3P n.1.toNat n.2).bind fun ts =>
   (smallP 0 8 ts.2).bind fun m=>(manyP row2P m.1.toNat m.2).map fun ps=>({ r with beg:=b.1,txns:=ts.1,pages:=ps.1 },ps.2)
def recP (l:List UInt8):Option (Rc × List UInt8) :=
 (smallP 1 6 l).bind fun k =>
   if k.1≤4 then (numP 1 k.2).bind fun t=>(numP 0 t.2).bind fun p =>
    if k.1=2 then (numP 0 p.2).bind fun n=>changeP { Rc.nil with kind:=k.1,txn:=t.1,prev:=p.1,next:=n.1 } n.2
    else if k.1=1 then changeP { Rc.nil with kind:=k.1,txn:=t.1,prev:=p.1 } p.2
    else some ({ Rc.nil with kind:=k.1,txn:=t.1,prev:=p.1 },p.2)
   else if k.1=6 then tablesP { Rc.nil with kind:=k.1 } k.2
   else some ({ Rc.nil with kind:=k.1 },k.2)
theorem lowI_toNat {n:Int} (h:0≤n∧n≤255):((lowI n).toNat:Int)=n:=by
 unfold lowI; simp; omega
theorem smallP_low {lo hi n:Int} (h:lo≤n∧n≤hi) (h2:0≤n∧n≤255) (l:List UInt8):smallP lo hi (lowI n::l)=some (n,l):=by
 show (if _ then _ else _)=_
 rw [lowI_toNat h2,if_pos h]
theorem val4_be {n:Nat} (h:n < 4294967296):val4 (UInt8.ofNat (n / 16777216)) (UInt8.ofNat (n / 65536)) (UInt8.ofNat (n / 256)) (UInt8.ofNat n)=n:=by
 unfold val4; simp; omega
theorem numP_be {lo n:Int} (h:lo≤n) (h2:Num n) (l:List UInt8):numP lo (beI n++l)=some (n,l):=by
 unfold Num at h2
 show (if _ then _ else _)=_
 have e:((val4 (UInt8.ofNat ((n % 4294967296).toNat / 16777216)) (UInt8.ofNat ((n % 4294967296).toNat / 65536)) (UInt8.ofNat ((n % 4294967296).toNat / 256)) (UInt8.ofNat (n % 4294967296).toNat):Nat):Int)=n:=by
  rw [val4_be (by omega)]; omega
 rw [e,if_pos ⟨h,h2.2⟩]
 rfl
theorem txtP_app (a:ByteArray) (l:List UInt8):txtP a.size (a.data.toList++l)=some (a,l):=by
 unfold txtP
 have e:a.data.toList.length=a.size:=rfl
 rw [if_pos (by rw [List.length_append,e]; omega),← e,List.take_left' rfl,List.drop_left' rfl]
theorem manyP_app {α:Type} {p:List UInt8→Option (α × List UInt8)} {f:α→List UInt8} (xs:List α) (h:∀ x ∈ xs,∀ l,p (f x++l)=some (x,l)) (l:List UInt8):manyP p xs.length (xs.flatMap f++l)=some (xs,l):=by
 induction xs with
 | nil=>rfl
 | cons x xs ih =>
   simp only [List.flatMap_cons,List.length_cons,manyP,List.append_assoc]
   rw [h x List.mem_cons_self,Option.bind_some,ih fun y hy=>h y (List.mem_cons_of_mem _ hy)]
   rfl
theorem row3P_app {x:Row3} (h:Row3Ok x) (l:List UInt8):row3P (enc3 x++l)=some (x,l):=by
 obtain ⟨h0,h1,h2,h3⟩:=h
 unfold row3P enc3
 simp only [List.append_assoc]
 rw [numP_be h0 h1,Option.bind_some,numP_be h2.1 h2,Option.bind_some,numP_be h3.1 h3]
 rfl
theorem row2P_app {x:Row2} (h:Row2Ok x) (l:List UInt8):row2P (enc2 x++l)=some (x,l):=by
 obtain ⟨h0,h1⟩:=h
 unfold row2P enc2
 simp only [List.cons_append]
 rw [smallP_low h0 ⟨h0.1,by omega⟩,Option.bind_some,numP_be h1.1 h1]
 rfl
theorem recP_lay {r:Rc} (h:May r) (l:List UInt8):recP (lay r++l)=some (r,l):=by
 cases h with
 | @upd t p pg o b a ht hn hp hs hb =>
   have k4:(1:Int)≤4:=by decide
   obtain ⟨h1,h2,h3,h4⟩:=hs
   have e:lay (.upd t p pg o b a)++l=lowI 1::(beI t++(beI p++(lowI pg::lowI o::lowI a.size::(b.data.toList++(a.data.toList++l))))):=by
    simp [lay,Rc.upd]
   rw [e]
   unfold recP changeP
   rw [smallP_low (by omega) (by omega),Option.bind_some,if_pos k4,numP_be ht hn,Option.bind_some,numP_be hp.1 hp,Option.bind_some,if_neg (by show ¬ (1:Int)=2; decide),if_pos rfl,
    smallP_low h1 (by omega),Option.bind_some,smallP_low (by omega) (by omega),Option.bind_some,smallP_low (by omega) (by omega),Option.bind_some,if_pos rfl]
   simp only [Int.toNat_natCast]
   rw [← hb,txtP_app,Option.bind_some,hb,txtP_app]
   rfl
 | @und t p n pg o a ht hn hp hx hs =>
   have k4:(2:Int)≤4:=by decide
   obtain ⟨h1,h2,h3,h4⟩:=hs
   have e:lay (.und t p n pg o a)++l=lowI 2::(beI t++(beI p++(beI n++(lowI pg::lowI o::lowI a.size::(a.data.toList++l))))):=by
    simp [lay,Rc.und]
   rw [e]
   unfold recP changeP
   rw [smallP_low (by omega) (by omega),Option.bind_some,if_pos k4,numP_be ht hn,Option.bind_some,numP_be hp.1 hp,Option.bind_some,if_pos rfl,numP_be hx.1 hx,Option.bind_some,
    smallP_low h1 (by omega),Option.bind_some,smallP_low (by omega) (by omega),Option.bind_some,smallP_low (by omega) (by omega),Option.bind_some,if_neg (by show ¬ (2:Int)=1; decide)]
   simp only [Int.toNat_natCast]
   rw [txtP_app]
   rfl
 | @com k t p hk ht hn hp =>
   have e:lay (.com k t p)++l=lowI k::(beI t++(beI p++l)):=by
    rcases hk with rfl | rfl <;> simp [lay,Rc.com]
   rw [e]
   unfold recP
   rw [smallP_low (by omega) (by omega),Option.bind_some,if_pos (by show k≤4; omega),numP_be ht hn,Option.bind_some,numP_be hp.1 hp,Option.bind_some,if_neg (by show ¬ k=2; omega),if_neg (by show ¬ k=1; omega)]
   rfl
 | beg =>
   have e:lay .begin5++l=lowI 5::l:=by simp [lay,Rc.begin5,Rc.com]
   rw [e]
   unfold recP
   rw [smallP_low (by omega) (by omega),Option.bind_some,if_neg (by show ¬ (5:Int)≤4; decide),if_neg (by show ¬ (5:Int)=6; decide)]
   rfl
 | @tab b ts ps hb ht hp h3 h2 =>
   have e:lay (.tab b ts ps)++l=lowI 6::(beI b++(lowI ts.length::(ts.flatMap enc3++(lowI ps.length::(ps.flatMap enc2++l))))):=by
    simp [lay,Rc.tab,encTab]
   rw [e]
   unfold recP tablesP
   rw [smallP_low (by omega) (by omega),Option.bind_some,if_neg (by show ¬ (6:Int)≤4; decide),if_pos rfl,numP_be hb.1 hb,Option.bind_some,smallP_low (by omega) (by omega),Option.bind_some]
   simp only [Int.toNat_natCast]
   rw [manyP_app ts (fun x hx=>row3P_app (h3 x hx)),Option.bind_some,smallP_low (by omega) (by omega),Option.bind_some]
   simp only [Int.toNat_natCast]
   rw [manyP_app ps (fun x hx=>row2P_app (h2 x hx))]
   rfl
theorem smallP_some {lo hi n:Int} {l r:List UInt8} (h:smallP lo hi l=some (n,r)):l=lowI n::r∧lo≤n∧n≤hi∧0≤n∧n≤255:=by
 cases l with
 | nil=>cases h
 | cons b l =>
   have h':(if lo≤(b.toNat:Int)∧(b.toNat:Int)≤hi then some ((b.toNat:Int),l) else none)=some (n,r):=h
   have hb:=b.toNat_lt
   split at h'
   ·rename_i g
    simp only [Option.some.injEq,Prod.mk.injEq] at h'
    obtain ⟨rfl,rfl⟩:=h'
    refine ⟨?_,g.1,g.2,by omega,by omega⟩
    congr 1
    unfold lowI
    apply UInt8.toNat_inj.1
    simp
    omega
   · cases h'
theorem be_val4 (a b c d:UInt8):beI (val4 a b c d:Int) = [a,b,c,d]:=by
 have ha:=a.toNat_lt
 have hb:=b.toNat_lt
 have hc:=c.toNat_lt
 have hd:=d.toNat_lt
 unfold beI be4 val4
 simp only [List.cons.injEq,and_true]
 refine ⟨?_,?_,?_,?_⟩ <;> (apply UInt8.toNat_inj.1; simp; omega)
theorem numP_some {lo n:Int} {l r:List UInt8} (h:numP lo l=some (n,r)):l=beI n++r∧lo≤n∧Num n:=by
 match l,h with
 | [],h=>cases h
 | [_],h=>cases h
 | [_,_],h=>cases h
 | [_,_,_],h=>cases h
 | a::b::c::d::l,h =>
   have h':(if lo≤(val4 a b c d:Int)∧(val4 a b c d:Int)≤2147483647 then some ((val4 a b c d:Int),l) else none)=some (n,r):=h
   split at h'
   ·rename_i g
    simp only [Option.some.injEq,Prod.mk.injEq] at h'
    obtain ⟨rfl,rfl⟩:=h'
    exact ⟨by rw [be_val4]; rfl,g.1,by omega,g.2⟩
   · cases h'
theorem txtP_some {n:Nat} {l r:List UInt8} {a:ByteArray} (h:txtP n l=some (a,r)):l=a.data.toList++r∧a.size=n:=by
 unfold txtP at h
 split at h
 ·rename_i g
  simp only [Option.some.injEq,Prod.mk.injEq] at h
  obtain ⟨rfl,rfl⟩:=h
  refine ⟨by simp,?_⟩
  show (List.take n l).toArray.size=n
  simp [g]
 · cases h
theorem manyP_some {α:Type} {p:List UInt8→Option (α × List UInt8)} {f:α→List UInt8} {ok:α→Prop} (h:∀ l x r,p l=some (x,r)→l=f x++r∧ok x) :
 ∀ (n:Nat) (l:List UInt8) (xs:List α) (r:List UInt8),manyP p n l=some (xs,r)→l=xs.flatMap f++r∧xs.length=n∧∀ x ∈ xs,ok x:=by
 intro n
 induction n with
 | zero=>intro l xs r hl; simp only [manyP,Option.some.injEq,Prod.mk.injEq] at hl; obtain ⟨rfl,rfl⟩:=hl; simp
 | succ n ih =>
   intro l xs r hl
   simp only [manyP] at hl
   obtain ⟨⟨x,l1⟩,h1,h2⟩:=Option.bind_eq_some_iff.1 hl
   obtain ⟨⟨ys,l2⟩,h3,h4⟩:=Option.map_eq_some_iff.1 h2
   simp only [Prod.mk.injEq] at h4
   obtain ⟨rfl,rfl⟩:=h4
   obtain ⟨e1,o1⟩:=h _ _ _ h1
   obtain ⟨e2,e3,o2⟩:=ih _ _ _ h3
   simp only at e2
   refine ⟨by rw [e1,e2]; simp,by simp [e3],fun y hy=>?_⟩
   rcases List.mem_cons.1 hy with rfl | hy
   · exact o1
   · exact o2 y hy
theorem row3P_some {l r:List UInt8} {x:Row3} (h:row3P l=some (x,r)):l=enc3 x++r∧Row3Ok x:=by
 unfold row3P at h
 obtain ⟨⟨a,l1⟩,h1,h⟩:=Option.bind_eq_some_iff.1 h
 obtain ⟨⟨b,l2⟩,h2,h⟩:=Option.bind_eq_some_iff.1 h
 obtain ⟨⟨c,l3⟩,h3,h⟩:=Option.map_eq_some_iff.1 h
 simp only [Prod.mk.injEq] at h h2 h3
 obtain ⟨rfl,rfl⟩:=h
 obtain ⟨e1,g1,n1⟩:=numP_some h1
 obtain ⟨e2,g2,n2⟩:=numP_some h2
 obtain ⟨e3,g3,n3⟩:=numP_some h3
 exact ⟨by rw [e1,e2,e3]; simp [enc3],g1,n1,n2,n3⟩
theorem row2P_some {l r:List UInt8} {x:Row2} (h:row2P l=some (x,r)):l=enc2 x++r∧Row2Ok x:=by
 unfold row2P at h
 obtain ⟨⟨a,l1⟩,h1,h⟩:=Option.bind_eq_some_iff.1 h
 obtain ⟨⟨b,l2⟩,h2,h⟩:=Option.map_eq_some_iff.1 h
 simp only [Prod.mk.injEq] at h h2
 obtain ⟨rfl,rfl⟩:=h
 obtain ⟨e1,g1,g2,g3,g4⟩:=smallP_some h1
 obtain ⟨e2,g5,n2⟩:=numP_some h2
 exact ⟨by rw [e1,e2]; simp [enc2],⟨g1,g2⟩,n2⟩
theorem recP_some {l r:List UInt8} {x:Rc} (h:recP l=some (x,r)):May x∧l=lay x++r:=by
 unfold recP at h
 obtain ⟨⟨k,l0⟩,hk,h⟩:=Option.bind_eq_some_iff.1 h
 obtain ⟨e0,k1,k2,k3,k4⟩:=smallP_some hk
 simp only at h
 split at h
 ·rename_i k5
  obtain ⟨⟨t,l1⟩,ht,h⟩:=Option.bind_eq_some_iff.1 h
  obtain ⟨⟨p,l2⟩,hp,h⟩:=Option.bind_eq_some_iff.1 h
  obtain ⟨e1,t1,nt⟩:=numP_some ht
  obtain ⟨e2,p1,np⟩:=numP_some hp
  simp only at e2
  split at h
  ·rename_i k6
   subst k6
   obtain ⟨⟨n,l3⟩,hn,h⟩:=Option.bind_eq_some_iff.1 h
   obtain ⟨e3,n1,nn⟩:=numP_some hn
   unfold changeP at h
   obtain ⟨⟨pg,l4⟩,hpg,h⟩:=Option.bind_eq_some_iff.1 h
   obtain ⟨⟨o,l5⟩,ho,h⟩:=Option.bind_eq_some_iff.1 h
   obtain ⟨⟨m,l6⟩,hm,h⟩:=Option.bind_eq_some_iff.1 h
   rw [if_neg (by show ¬ (2:Int)=1; decide)] at h
   obtain ⟨⟨a,l7⟩,ha,h⟩:=Option.map_eq_some_iff.1 h
   simp only [Prod.mk.injEq] at h
   obtain ⟨rfl,rfl⟩:=h
   obtain ⟨e4,a1,a2,a3,a4⟩:=smallP_some hpg
   obtain ⟨e5,b1,b2,b3,b4⟩:=smallP_some ho
   obtain ⟨e6,c1,c2,c3,c4⟩:=smallP_some hm
   obtain ⟨e7,d1⟩:=txtP_some ha
   simp only at e3 e4 e5 e6 e7 d1 c2
   refine ⟨May.und t1 nt np nn ⟨⟨a1,a2⟩,b1,⟨by omega,by omega⟩,by omega⟩,?_⟩
   have hm':m=(a.size:Int):=by omega
   rw [e0,e1,e2,e3,e4,e5,e6,e7,hm']
   simp [lay,Rc.nil]
  ·split at h
   ·rename_i k6 k7
    subst k7
    unfold changeP at h
    obtain ⟨⟨pg,l4⟩,hpg,h⟩:=Option.bind_eq_some_iff.1 h
    obtain ⟨⟨o,l5⟩,ho,h⟩:=Option.bind_eq_some_iff.1 h
    obtain ⟨⟨m,l6⟩,hm,h⟩:=Option.bind_eq_some_iff.1 h
    rw [if_pos rfl] at h
    obtain ⟨⟨b,l7⟩,hb,h⟩:=Option.bind_eq_some_iff.1 h
    obtain ⟨⟨a,l8⟩,ha,h⟩:=Option.map_eq_some_iff.1 h
    simp only [Prod.mk.injEq] at h
    obtain ⟨rfl,rfl⟩:=h
    obtain ⟨e4,a1,a2,a3,a4⟩:=smallP_some hpg
    obtain ⟨e5,b1,b2,b3,b4⟩:=smallP_some ho
    obtain ⟨e6,c1,c2,c3,c4⟩:=smallP_some hm
    obtain ⟨e7,d1⟩:=txtP_some hb
    obtain ⟨e8,d2⟩:=txtP_some ha
    simp only at e4 e5 e6 e7 e8 d1 d2 c2
    refine ⟨May.upd t1 nt np ⟨⟨a1,a2⟩,b1,⟨by omega,by omega⟩,by omega⟩ (by omega),?_⟩
    have hm':m=(a.size:Int):=by omega
    rw [e0,e1,e2,e4,e5,e6,e7,e8,hm']
    simp [lay]
   ·rename_i k6 k7
    simp only [Option.some.injEq,Prod.mk.injEq] at h
    obtain ⟨rfl,rfl⟩:=h
    refine ⟨May.com (by omega) t1 nt np,?_⟩
    rw [e0,e1,e2]
    simp [lay,k5,k6,k7,show ¬ k=6 by omega]
 ·rename_i k5
  split at h
  ·rename_i k6
   subst k6
   unfold tablesP at h
   obtain ⟨⟨b,l1⟩,hb,h⟩:=Option.bind_eq_some_iff.1 h
   obtain ⟨⟨n,l2⟩,hn,h⟩:=Option.bind_eq_some_iff.1 h
   obtain ⟨⟨ts,l3⟩,ht,h⟩:=Option.bind_eq_some_iff.1 h
   obtain ⟨⟨m,l4⟩,hm,h⟩:=Option.bind_eq_some_iff.1 h
   obtain ⟨⟨ps,l5⟩,hp,h⟩:=Option.map_eq_some_iff.1 h
   simp only [Prod.mk.injEq] at h
   obtain ⟨rfl,rfl⟩:=h
   obtain ⟨e1,b1,nb⟩:=numP_some hb
   obtain ⟨e2,n1,n2,n3,n4⟩:=smallP_some hn
   obtain ⟨e3,t1,t2⟩:=manyP_some (fun _ _ _=>row3P_some) _ _ _ _ ht
   obtain ⟨e4,m1,m2,m3,m4⟩:=smallP_some hm
   obtain ⟨e5,p1,p2⟩:=manyP_some (fun _ _ _=>row2P_some) _ _ _ _ hp
   simp only at e1 e2 e3 e4 e5 t1 p1 n1 n2 m1 m2
   refine ⟨May.tab nb (by omega) (by omega) t2 p2,?_⟩
   have hn':n=(ts.length:Int):=by omega
   have hm':m=(ps.length:Int):=by omega
   rw [e0,e1,e2,e3,e4,e5,hn',hm']
   simp [lay,encTab]
  ·rename_i k6
   obtain rfl:k=5:=by omega
   simp only [Option.some.injEq,Prod.mk.injEq] at h
   obtain ⟨rfl,rfl⟩:=h
   refine ⟨May.beg,?_⟩
   rw [e0]
   simp [lay]
section
variable {l l1 l2 l3:List UInt8} {a b c:Int}
theorem row3_none1 (h:numP 1 l=none):row3P l=none:=by unfold row3P; rw [h]; rfl
theorem row3_none2 (h:numP 1 l=some (a,l1)) (h2:numP 0 l1=none):row3P l=none:=by unfold row3P; rw [h,Option.bind_some,h2]; rfl
theorem row3_none3 (h:numP 1 l=some (a,l1)) (h2:numP 0 l1=some (b,l2)) (h3:numP 0 l2=none):row3P l=none:=by unfold row3P; rw [h,Option.bind_some,h2,Option.bind_some,h3]; rfl
theorem row3_some (h:numP 1 l=some (a,l1)) (h2:numP 0 l1=some (b,l2)) (h3:numP 0 l2=some (c,l3)):row3P l=some ((a,b,c),l3):=by unfold row3P; rw [h,Option.bind_some,h2,Option.bind_some,h3]; rfl
theorem row2_none1 (h:smallP 0 7 l=none):row2P l=none:=by unfold row2P; rw [h]; rfl
theorem row2_none2 (h:smallP 0 7 l=some (a,l1)) (h2:numP 0 l1=none):row2P l=none:=by unfold row2P; rw [h,Option.bind_some,h2]; rfl
theorem row2_some (h:smallP 0 7 l=some (a,l1)) (h2:numP 0 l1=some (b,l2)):row2P l=some ((a,b),l2):=by unfold row2P; rw [h,Option.bind_some,h2]; rfl
end
theorem changeP_rows {r r':Rc} {l l':List UInt8} (h:changeP r l=some (r',l')):r'.txns=r.txns∧r'.pages=r.pages:=by
 unfold changeP at h
 obtain ⟨pg,_,h⟩:=Option.bind_eq_some_iff.1 h
 obtain ⟨o,_,h⟩:=Option.bind_eq_some_iff.1 h
 obtain ⟨n,_,h⟩:=Option.bind_eq_some_iff.1 h
 split at h
 ·obtain ⟨b,_,h⟩:=Option.bind_eq_some_iff.1 h
  obtain ⟨a,_,h⟩:=Option.map_eq_some_iff.1 h
  simp only [Prod.mk.injEq] at h
  obtain ⟨rfl,_⟩:=h
  exact ⟨rfl,rfl⟩
 ·obtain ⟨a,_,h⟩:=Option.map_eq_some_iff.1 h
  simp only [Prod.mk.injEq] at h
  obtain ⟨rfl,_⟩:=h
  exact ⟨rfl,rfl⟩
def Midst {α:Type} (p:List UInt8→Option (α × List UInt8)) (m:Nat) (l0:List UInt8) (xs:List α) (l:List UInt8):Prop :=
 xs.length≤m∧manyP p m l0=(manyP p (m - xs.length) l).map fun y=>(xs++y.1,y.2)
namespace Midst
variable {α:Type} {p:List UInt8→Option (α × List UInt8)} {m:Nat} {l0 l l':List UInt8} {xs:List α} {x:α}
theorem start (p:List UInt8→Option (α × List UInt8)) (m:Nat) (l0:List UInt8):Midst p m l0 [] l0:=⟨Nat.zero_le _,by show _=Option.map _ (manyP p (m - 0) l0); rw [Nat.sub_zero]; cases manyP p m l0 <;> rfl⟩
theorem some (h:Midst p m l0 xs l) (hlt:xs.length < m) (hx:p l=.some (x,l')):Midst p m l0 (xs++[x]) l':=by
 refine ⟨by simp; omega,?_⟩
 rw [h.2,show m - xs.length=(m - (xs++[x]).length)+1 from by simp; omega]
 simp only [manyP,hx,Option.bind_some,Option.map_map]
 congr 1
 funext y
 simp
theorem none (h:Midst p m l0 xs l) (hlt:xs.length < m) (hx:p l=.none):manyP p m l0=.none:=by
 rw [h.2,show m - xs.length=(m - xs.length - 1)+1 from by omega]
 simp only [manyP,hx,Option.bind_none,Option.map_none]
theorem done (h:Midst p m l0 xs l) (he:xs.length=m):manyP p m l0=.some (xs,l):=by
 rw [h.2,he,Nat.sub_self]
 simp [manyP]
end Midst
structure Fit (r:Rc):Prop where
 before:r.before.size≤300
 after:r.after.size≤300
 txns:r.txns.length≤50
 pages:r.pages.length≤50
end Go.Proofs.YthkbcfhjmnpggaaGreat

namespace Go.Proofs.YthkbcfhjmnpggaaGreat
open Go.RowKit
structure Only (S:Nat→Prop) (w w':World):Prop where
 os:w'.os=w.os
 tape:w'.tape=w.tape
 output:w'.output=w.output
 size:w.heap.size≤w'.heap.size
 block:∀ b,b < w.heap.size→¬ S b→w'.heap[b]? = w.heap[b]?
namespace Only
variable {S T:Nat→Prop} {w w' w'':World}
theorem refl (S:Nat→Prop) (w:World):Only S w w:=⟨rfl,rfl,rfl,Nat.le_refl _,fun _ _ _=>rfl⟩
theorem and_ (h:Only S w w') (k:Only T w' w'') (hT:∀ b,T b→S b∨w.heap.size≤b):Only S w w'' :=
 ⟨k.os.trans h.os,k.tape.trans h.tape,k.output.trans h.output,Nat.le_trans h.size k.size,fun b hb hs=>(k.block b (Nat.lt_of_lt_of_le hb h.size) fun g=>(hT b g).elim hs (by omega)).trans (h.block b hb hs)⟩
theorem trans (h:Only S w w') (k:Only S w' w''):Only S w w'':=h.and_ k fun _=>.inl
theorem ofBelow (h:Below w.heap.size w w'):Only S w w':=⟨h.os,h.tape,h.output,h.size,fun b hb _=>h.block b hb⟩
theorem more (h:Only S w w') (k:Below w'.heap.size w' w''):Only S w w'':=h.trans (.ofBelow k)
theorem alloc (h:Only S w w') (o:Obj):Only S w (w'.alloc o):=h.more ((Below.refl _ _).alloc (Nat.le_refl _) _)
theorem drew (h:Only S w w'):Only S w w'.drew:=⟨h.os,h.tape,h.output,h.size,h.block⟩
theorem drewN (h:Only S w w') (n:Nat):Only S w (w'.drewN n):=⟨h.os,h.tape,h.output,h.size,h.block⟩
theorem set (h:Only S w w') {p:Addr} (hp:S p.block∨w.heap.size≤p.block) (v:Value):Only S w (w'.setCell p v) :=
 h.and_ (T:=fun b=>b=p.block) ⟨rfl,rfl,rfl,by simp [World.setCell],fun b _ hf=>Below.heap_setCell w' p v b hf⟩ fun b hb=>by subst hb; exact hp
theorem grown (h:Only S w w') {row:Option Nat} (hg:w'.grownBy w'' row) (hr:∀ b,row=some b→S b∨w.heap.size≤b):Only S w w'' :=
 h.and_ (T:=fun b=>row=some b) ⟨hg.os,hg.tape,hg.output,hg.size,fun b hb hf=>hg.block b hb fun e=>hf e.symm⟩ fun b hb=>hr b hb
theorem setRow (h:Only S w w') {g:Nat} (hp:S g∨w.heap.size≤g) (cs:Array Value):Only S w (w'.setRow g cs) :=
 h.and_ (T:=fun b=>b=g) ⟨rfl,rfl,rfl,by simp [World.setRow],fun b _ hf=>setRow_other w' g b cs hf⟩ fun b hb=>by subst hb; exact hp
theorem below (h:Only S w w') {B:Nat} {a:World} (k:Below B a w) (hB:B≤w.heap.size) (hS:∀ b,S b→B≤b):Below B a w' :=
 ⟨h.os.trans k.os,h.tape.trans k.tape,h.output.trans k.output,Nat.le_trans k.size h.size,fun b hb=>(h.block b (by omega) fun g=>by have:=hS b g; omega).trans (k.block b hb)⟩
theorem widen (h:Only S w w') (hT:∀ b,S b→T b∨w.heap.size≤b):Only T w w':=(refl T w).and_ h hT
theorem blk {g t:Nat} {cs:Array Value} (h:Only S w w') (hb:Blk w g t cs) (hg:¬ S g):Blk w' g t cs:=(h.block g hb.lt hg).trans hb
end Only
end Go.Proofs.YthkbcfhjmnpggaaGreat
