/- Texts that belong together, joined: Region. -/
import Derived.Test.YthkbcfhjmnpggaaGreatK00
import Derived.StillTail
namespace Go.Proofs.YthkbcfhjmnpggaaGreat
open Go.RowKit
structure Yield where
 c:Option Value
 p:Value→World→Prop
 mono:∀ x w w',Below w.heap.size w w'→p x w→p x w'
 tight:∀ d,c=some d→∀ x w,p x w→x=d
def Yield.is (d:Value):Yield:=⟨some d,fun x _=>x=d,fun _ _ _ _ h=>h,fun d' h x w e=>by cases h; exact e⟩
def Yield.slice (B:Nat) (n:Nat) (t:TypeId) (cs:Array Value):Yield :=
 ⟨none,fun x w=>∃ g,B≤g∧x=.slice (some ⟨g,0,none⟩) n n∧Blk w g t cs,fun _ _ _ hb ⟨g,h1,h2,h3⟩=>⟨g,h1,h2,h3.keep hb h3.lt⟩,fun _ h=>by cases h⟩
def Yield.ptr (B:Nat) (t:TypeId) (cs:Array Value):Yield :=
 ⟨none,fun x w=>∃ g,B≤g∧x=.pointer (some ⟨g,0,none⟩)∧Blk w g t cs,fun _ _ _ hb ⟨g,h1,h2,h3⟩=>⟨g,h1,h2,h3.keep hb h3.lt⟩,fun _ h=>by cases h⟩
def Post (V:Yield) (C:Act) (d:Option Tmp) (w1:World):Exit→Act→World→Prop
 | .normal,a,w=>∃ x,a=C.put d x∧V.p x w∧Below w1.heap.size w1 w
 | _,_,_=>False
section
variable (P:Program) (ops:Array Oper) (w0:World) (Q:Exit→Act→World→Prop)
def Obs:Nat→List Oper→List Yield→Act→List (Nat × Yield × Value)→Prop
 | _,tail,[],C,kn=>∀ w,Below w0.heap.size w0 w→(∀ e ∈ kn,e.2.1.p e.2.2 w)→wpList P ops Q tail C w
 | _,[],_::_,_,_=>False
 | i,o::rest,V::Vs,C,kn =>
   (∀ w,Below w0.heap.size w0 w→(∀ e ∈ kn,Region.waitsFor .any ops i e.1=true→e.2.1.p e.2.2 w)→wpList P ops (Post V C o.dst w) [o] C w) ∧
   match V.c with
   | some d=>Obs (i+1) rest Vs (C.put o.dst d) kn
   | none=>∀ x,Obs (i+1) rest Vs (C.put o.dst x) ((i,V,x)::kn)
end
def dstOf (ops:Array Oper) (k:Nat):Option Tmp:=(ops[k]?).bind (·.dst)
def slotv (ops:Array Oper) (a0:Act) (v:Nat→Value) (m:Nat→Bool):Nat→Nat→Option Value
 | 0,t=>a0.tmps[t]?
 | k+1,t=>if m k=true∧dstOf ops k=some t then (if t < a0.tmps.size then some (v k) else none) else slotv ops a0 v m k t
structure Fr (ops:Array Oper) (a0 a:Act) (v:Nat→Value) (m:Nat→Bool) (n:Nat):Prop where
 defers:a.defers=a0.defers
 size:a.tmps.size=a0.tmps.size
 slot:∀ t,a.tmps[t]? = slotv ops a0 v m n t
theorem slotv_congr {ops:Array Oper} {a0:Act} {v v':Nat→Value} {m m':Nat→Bool} {t:Nat}:∀ {n:Nat},
 (∀ k,k < n→dstOf ops k=some t→m k=m' k∧(m k=true→v k=v' k))→slotv ops a0 v m n t=slotv ops a0 v' m' n t
 | 0,_=>rfl
 | n+1,h=>by
   have ih:=slotv_congr (a0:=a0) (n:=n) (fun k hk=>h k (by omega))
   unfold slotv
   by_cases hd:dstOf ops n=some t
   ·obtain ⟨h1,h2⟩:=h n (by omega) hd
    rw [← h1,ih]
    by_cases hm:m n=true
    · rw [h2 hm]
    · simp [hm]
   · simp [hd,ih]
theorem slotv_off {ops:Array Oper} {a0:Act} {v:Nat→Value} {m:Nat→Bool} {t:Nat}:∀ {n:Nat},
 (∀ k,k < n→dstOf ops k=some t→m k=false)→slotv ops a0 v m n t=a0.tmps[t]?
 | 0,_=>rfl
 | n+1,h=>by
   unfold slotv
   rw [if_neg (fun hc=>by have:=h n (by omega) hc.2; rw [this] at hc; cases hc.1),slotv_off (fun k hk=>h k (by omega))]
theorem slotv_beyond {ops:Array Oper} {a0:Act} {v:Nat→Value} {m:Nat→Bool} {t i:Nat} (hm:∀ k,i≤k→m k=false):∀ {n:Nat},i≤n→slotv ops a0 v m n t=slotv ops a0 v m i t
 | n,hn=>by
   induction n with
   | zero =>
      have:i=0:=by omega
      rw [this]
   | succ n ih =>
     by_cases h:i=n+1
     · rw [h]
     ·have e:slotv ops a0 v m (n+1) t=if m n=true∧dstOf ops n=some t then (if t < a0.tmps.size then some (v n) else none) else slotv ops a0 v m n t:=rfl
      rw [e,if_neg (fun hc=>by rw [hm n (by omega)] at hc; cases hc.1)]
      exact ih (by omega)
theorem put_slot (a:Act) (d:Option Tmp) (x:Value) (t:Nat):(a.put d x).tmps[t]? = if d=some t then (if t < a.tmps.size then some x else none) else a.tmps[t]?:=by
 cases d with
 | none=>simp [Act.put]
 | some d =>
   simp only [Act.put,Option.some.injEq]
   rw [Array.getElem?_setIfInBounds]
   by_cases h:d=t
   · rw [if_pos h,if_pos h,h]
   · rw [if_neg h,if_neg h]
theorem put_size (a:Act) (d:Option Tmp) (x:Value):(a.put d x).tmps.size=a.tmps.size:=by cases d <;> simp [Act.put]
theorem put_defers (a:Act) (d:Option Tmp) (x:Value):(a.put d x).defers=a.defers:=by cases d <;> rfl
def depsOf (o:Oper):List Nat:=o.after.toList.filterMap fun e=>if Region.binds .any e then some e.on else none
def distinctB:List (Option Tmp)→Bool
 | []=>true
 | none::r=>distinctB r
 | some d::r=>(r.all fun x=>match x with | some y=>!(Nat.beq y d) | none=>true) && distinctB r
def lookB (D:List (List Nat)) (i:Nat) (di:List Nat) (t:Nat):Nat→List (Option Tmp)→Bool
 | _,[]=>true
 | j,none::r=>lookB D i di t (j+1) r
 | j,some d::r=>(!(Nat.beq d t) || di.any (Nat.beq j) || (D.getD j []).any (Nat.beq i)) && lookB D i di t (j+1) r
def rowsB (ops:Array Oper) (D:List (List Nat)) (W:List (Option Tmp)):Nat→List Oper→List (List Nat)→Bool
 | i,o::r,di::ds=>(match o.op with | .select _ _=>false | _=>true) && (o.looksAt ops).all (fun t=>lookB D i di t 0 W) && rowsB ops D W (i+1) r ds
 | _,_,_=>true
def backB:Nat→List (List Nat)→Bool
 | _,[]=>true
 | i,d::r=>d.all (fun j=>Nat.blt j i) && backB (i+1) r
def regionOk (ops:Array Oper) (n:Nat):Bool :=
 backB 0 (ops.toList.map depsOf) && distinctB ((ops.toList.take n).map (·.dst)) && rowsB ops (ops.toList.map depsOf) ((ops.toList.take n).map (·.dst)) 0 (ops.toList.take n) (ops.toList.map depsOf)
def sinkB (D:List (List Nat)) (t:Nat):Bool:=(List.range t).all fun i=>((D.take (t+1)).drop (i+1)).any fun d=>d.any (Nat.beq i)
def tailOk (ops:Array Oper) (n:Nat):Bool:=(List.range ops.size).all fun t=>Nat.blt t n || sinkB (ops.toList.map depsOf) t
theorem waits_iff {ops:Array Oper} {i j:Nat}:Region.waitsFor .any ops i j=true↔∃ o,ops[i]? = some o∧∃ e ∈ o.after,Region.binds .any e=true∧e.on=j:=by
 constructor
 · exact Region.waitsFor_spec
 ·rintro ⟨o,ho,e,he,hb,hon⟩
  unfold Region.waitsFor
  rw [ho]
  exact Array.any_eq_true'.2 ⟨e,he,by simp [hb,hon]⟩
def Closed (ops:Array Oper) (listed:Array Bool):Prop:=∀ i j,listed.getD i false=true→Region.waitsFor .any ops i j=true→listed.getD j false=true
theorem waits_deps {ops:Array Oper} {i j:Nat}:Region.waitsFor .any ops i j=true↔∃ o,ops[i]? = some o∧j ∈ depsOf o:=by
 rw [waits_iff]
 constructor
 ·rintro ⟨o,ho,e,he,hb,rfl⟩
  exact ⟨o,ho,List.mem_filterMap.2 ⟨e,by simpa using he,by rw [if_pos hb]⟩⟩
 ·rintro ⟨o,ho,hj⟩
  obtain ⟨e,he,h⟩:=List.mem_filterMap.1 hj
  by_cases hb:Region.binds .any e=true
  ·rw [if_pos hb] at h
   exact ⟨o,ho,e,by simpa using he,hb,Option.some.inj h⟩
  ·rw [if_neg hb] at h
   cases h
theorem sink_listed {ops:Array Oper} {listed:Array Bool} (hc:Closed ops listed) {t:Nat} (hs:sinkB (ops.toList.map depsOf) t=true) (hd:∀ j,Region.waitsFor .any ops t j=true→listed.getD j false=true) :
 ∀ d i,t - i=d→i < t→listed.getD i false=true:=by
 intro d
 induction d using Nat.strongRecOn with
 | _ d ih =>
   intro i hid hit
   have h1:=List.all_eq_true.1 hs i (List.mem_range.2 hit)
   obtain ⟨dj,hdj,hany⟩:=List.any_eq_true.1 h1
   obtain ⟨q,hq,hqi⟩:=List.any_eq_true.1 hany
   have hqe:i=q:=Nat.eq_of_beq_eq_true hqi
   subst hqe
   obtain ⟨k,hk⟩:=List.mem_iff_getElem?.1 hdj
   rw [List.getElem?_drop,List.getElem?_take] at hk
   split at hk
   ·rename_i hlt
    rw [List.getElem?_map] at hk
    obtain ⟨o,ho,rfl⟩:=Option.map_eq_some_iff.1 hk
    have hw:Region.waitsFor .any ops (i+1+k) i=true:=waits_deps.2 ⟨o,by simpa using ho,hq⟩
    by_cases he:i+1+k=t
    · rw [he] at hw; exact hd i hw
    · exact hc _ _ (ih (t - (i+1+k)) (by omega) (i+1+k) rfl (by omega)) hw
   · cases hk
section
variable {P:Program} {ops:Array Oper}
theorem letsOut_post {V:Yield} {C:Act} {d:Option Tmp} {w1:World}:¬ LetsOut (Post V C d w1):=fun ⟨_,_,h⟩=>h
theorem put_same {a C:Act} (hs:a.tmps.size=C.tmps.size) {d:Option Tmp} {x y:Value} (h:C.put d x=C.put d y):a.put d x=a.put d y:=by
 cases d with
 | none=>rfl
 | some t =>
   by_cases ht:t < C.tmps.size
   ·have e:=congrArg (fun b:Act=>b.tmps[t]?) h
    simp only [put_slot,if_true,if_pos ht,Option.some.injEq] at e
    rw [e]
   ·have hz:∀ z,a.put (some t) z=a:=fun z=>by
     simp only [Act.put]
     congr 1
     exact Array.setIfInBounds_eq_of_size_le (by rw [hs]; exact Nat.le_of_not_lt ht)
    rw [hz,hz]
theorem upon_move {o:Oper} {a C:Act} (hs:a.tmps.size=C.tmps.size) {V:Yield} {w1:World} {K:Act→World→Prop} {Q:Exit→Act→World→Prop}
 (hK:∀ x w,V.p x w→Below w1.heap.size w1 w→K (a.put o.dst x) w) {r:Result Next} (h:o.upon P C (Post V C o.dst w1 .normal) (Post V C o.dst w1) r):o.upon P a K Q r:=by
 have any:∀ x w,Post V C o.dst w1 .normal (C.put o.dst x) w→K (a.put o.dst x) w:=by
  rintro x w ⟨y,hy,hp,hb⟩
  rw [put_same hs hy]
  exact hK _ _ hp hb
 cases r with
 | ok n w' =>
   cases n <;> simp only [Oper.upon] at h ⊢
   case value x=>exact any _ _ h
   case skip=>exact any _ _ h
   case defer d =>
    obtain ⟨y,hy,_,_⟩:=h
    have e:=congrArg Act.defers hy
    rw [put_defers,put_defers] at e
    exact absurd (congrArg List.length e) (by simp)
   case enter f args =>
    refine h.mono fun e w'' he=>?_
    cases e with
    | returned v=>exact any _ _ he
    | panicked c=>exact (he:False).elim
    | outgrown=>exact absurd he letsOut_post
   case row row args=>exact Rows.mono h fun v w'' he=>any _ _ he
 | halt x w'=>cases x <;> simp only [Oper.upon] at h ⊢ <;> exact (h:False).elim
end
section
variable {P:Program} {ops:Array Oper} {n:Nat} {vs:List Yield} {w0:World} {a0:Act} {Q:Exit→Act→World→Prop}
def pre (ops:Array Oper) (a0:Act) (v:Nat→Value):Nat→Act
 | 0=>a0
 | i+1=>(pre ops a0 v i).put (dstOf ops i) (v i)
def known (vs:List Yield) (v:Nat→Value):Nat→List (Nat × Yield × Value)
 | 0=>[]
 | i+1=>match vs[i]? with
   | some V=>if V.c.isSome then known vs v i else (i,V,v i)::known vs v i
   | none=>known vs v i
theorem pre_size (v:Nat→Value):∀ i,(pre ops a0 v i).tmps.size=a0.tmps.size
 | 0=>rfl
 | i+1=>by rw [pre,put_size,pre_size v i]
theorem pre_defers (v:Nat→Value):∀ i,(pre ops a0 v i).defers=a0.defers
 | 0=>rfl
 | i+1=>by rw [pre,put_defers,pre_defers v i]
theorem pre_slot (v:Nat→Value) (t:Nat):∀ i,(pre ops a0 v i).tmps[t]? = slotv ops a0 v (fun _=>true) i t
 | 0=>rfl
 | i+1=>by rw [pre,put_slot,pre_size,pre_slot v t i]; simp [slotv]
theorem known_mem (v:Nat→Value):∀ {i:Nat} {e:Nat × Yield × Value},e ∈ known vs v i→e.1 < i∧vs[e.1]? = some e.2.1∧e.2.2=v e.1
 | 0,e,h=>by cases h
 | i+1,e,h=>by
   unfold known at h
   split at h
   ·rename_i V hV
    split at h
    · obtain ⟨h1,h2⟩:=known_mem v h; exact ⟨by omega,h2⟩
    ·rcases List.mem_cons.1 h with rfl | h
     · exact ⟨by simp,hV,rfl⟩
     · obtain ⟨h1,h2⟩:=known_mem v h; exact ⟨by omega,h2⟩
   · obtain ⟨h1,h2⟩:=known_mem v h; exact ⟨by omega,h2⟩
def Fits (vs:List Yield) (v:Nat→Value):Prop:=∀ i V d,vs[i]? = some V→V.c=some d→v i=d
theorem obs_at (hO:Obs P ops w0 Q 0 ops.toList vs a0 []) (hl:vs.length≤ops.size) {v:Nat→Value} (hf:Fits vs v) :
 ∀ i,i≤vs.length→Obs P ops w0 Q i (ops.toList.drop i) (vs.drop i) (pre ops a0 v i) (known vs v i)
 | 0,_=>by simp only [List.drop_zero]; exact hO
 | i+1,hi=>by
   have ih:=obs_at hO hl hf i (by omega)
   rw [List.drop_eq_getElem_cons (by simp; omega:i < ops.toList.length),List.drop_eq_getElem_cons (by omega:i < vs.length)] at ih
   have hd:dstOf ops i=(ops.toList[i]'(by simp; omega)).dst:=by
    unfold dstOf
    rw [Array.getElem?_eq_getElem (by omega)]
    simp
   have hv:vs[i]? = some (vs[i]'(by omega)):=List.getElem?_eq_getElem (by omega)
   have h2:=ih.2
   rw [pre,hd]
   unfold known
   rw [hv]
   simp only
   cases hc:(vs[i]'(by omega)).c with
   | some d =>
     rw [hc] at h2
     rw [hf i _ d hv hc]
     simpa [hc] using h2
   | none =>
     rw [hc] at h2
     simpa [hc] using h2 (v i)
theorem back_at:∀ {L:List (List Nat)} {k:Nat},backB k L=true→∀ {i:Nat} {d:List Nat},L[i]? = some d→∀ j ∈ d,j < k+i
 | [],_,_,_,_,h,_,_=>by simp at h
 | e::r,k,h,i,d,hi,j,hj=>by
   unfold backB at h
   simp only [Bool.and_eq_true] at h
   cases i with
   | zero =>
     simp only [List.getElem?_cons_zero,Option.some.injEq] at hi
     subst hi
     have:=List.all_eq_true.1 h.1 j hj
     rw [Nat.blt_eq] at this
     omega
   | succ i =>
     simp only [List.getElem?_cons_succ] at hi
     have:=back_at h.2 hi j hj
     omega
theorem distinct_at:∀ {L:List (Option Tmp)},distinctB L=true→∀ {i j:Nat} {t:Tmp},j < i→L[j]? = some (some t)→L[i]? = some (some t)→False
 | [],_,_,_,_,_,h,_=>by simp at h
 | none::r,h,i,j,t,hji,hj,hi=>by
   unfold distinctB at h
   cases i with
   | zero=>omega
   | succ i =>
     cases j with
     | zero=>simp at hj
     | succ j=>exact distinct_at h (i:=i) (j:=j) (t:=t) (by omega) (by simpa using hj) (by simpa using hi)
 | some d::r,h,i,j,t,hji,hj,hi=>by
   unfold distinctB at h
   simp only [Bool.and_eq_true] at h
   cases i with
   | zero=>omega
   | succ i =>
     cases j with
     | zero =>
       simp only [List.getElem?_cons_zero,Option.some.injEq] at hj
       subst hj
       have hm:some d ∈ r:=List.mem_iff_getElem?.2 ⟨i,by simpa using hi⟩
       have h2:=List.all_eq_true.1 h.1 _ hm
       simp at h2
     | succ j=>exact distinct_at h.2 (i:=i) (j:=j) (t:=t) (by omega) (by simpa using hj) (by simpa using hi)
theorem look_at {D:List (List Nat)} {i:Nat} {di:List Nat} {t:Nat}:∀ {W:List (Option Tmp)} {k:Nat},lookB D i di t k W=true→∀ {j:Nat},W[j]? = some (some t)→(k+j) ∈ di∨i ∈ D.getD (k+j) []
 | [],_,_,_,h=>by simp at h
 | none::r,k,h,j,hj=>by
   unfold lookB at h
   cases j with
   | zero=>simp at hj
   | succ j=>have:=look_at h (j:=j) (by simpa using hj); rwa [show k+(j+1)=k+1+j from by omega]
 | some d::r,k,h,j,hj=>by
   unfold lookB at h
   simp only [Bool.and_eq_true,Bool.or_eq_true] at h
   cases j with
   | zero =>
     simp only [List.getElem?_cons_zero,Option.some.injEq] at hj
     subst hj
     rcases h.1 with (h1 | h1) | h1
     · simp at h1
     ·obtain ⟨q,hq,hb⟩:=List.any_eq_true.1 h1
      have:k=q:=Nat.eq_of_beq_eq_true hb
      subst this
      exact .inl hq
     ·obtain ⟨q,hq,hb⟩:=List.any_eq_true.1 h1
      have:i=q:=Nat.eq_of_beq_eq_true hb
      subst this
      exact .inr hq
   | succ j=>have:=look_at h.2 (j:=j) (by simpa using hj); rwa [show k+(j+1)=k+1+j from by omega]
theorem rows_at {D:List (List Nat)} {W:List (Option Tmp)}:∀ {L:List Oper} {E:List (List Nat)} {k:Nat},rowsB ops D W k L E=true→∀ {i:Nat} {o:Oper} {di:List Nat},L[i]? = some o→E[i]? = some di →
 (∀ cs b,o.op≠.select cs b)∧∀ t ∈ o.looksAt ops,lookB D (k+i) di t 0 W=true
 | [],_,_,_,_,_,_,h,_=>by simp at h
 | o'::r,[],_,_,_,_,_,_,h=>by simp at h
 | o'::r,e::E,k,h,i,o,di,hi,he=>by
   unfold rowsB at h
   simp only [Bool.and_eq_true] at h
   cases i with
   | zero =>
     simp only [List.getElem?_cons_zero,Option.some.injEq] at hi he
     subst hi
     subst he
     refine ⟨fun cs b hs=>?_,fun t ht=>List.all_eq_true.1 h.1.2 t ht⟩
     have h1:=h.1.1
     rw [hs] at h1
     cases h1
   | succ i =>
     have:=rows_at h.2 (i:=i) (by simpa using hi) (by simpa using he)
     rwa [show k+(i+1)=k+1+i from by omega]
theorem lt_of_at {i:Nat} {o:Oper} (h:ops[i]? = some o):i < ops.size:=(Array.getElem?_eq_some_iff.1 h).1
theorem ok_parts (h:regionOk ops n=true):backB 0 (ops.toList.map depsOf)=true∧distinctB ((ops.toList.take n).map (·.dst))=true∧rowsB ops (ops.toList.map depsOf) ((ops.toList.take n).map (·.dst)) 0 (ops.toList.take n) (ops.toList.map depsOf)=true:=by
 unfold regionOk at h
 simp only [Bool.and_eq_true] at h
 exact ⟨h.1.1,h.1.2,h.2⟩
theorem deps_at {i:Nat} {o:Oper} (ho:ops[i]? = some o):(ops.toList.map depsOf)[i]? = some (depsOf o):=by
 rw [List.getElem?_map,show ops.toList[i]? = some o from by simpa using ho]
 rfl
theorem ok_back (h:regionOk ops n=true) {i j:Nat} (hw:Region.waitsFor .any ops i j=true):j < i:=by
 obtain ⟨o,ho,hj⟩:=waits_deps.1 hw
 have:=back_at (ok_parts h).1 (deps_at ho) j hj
 omega
theorem dst_at {i:Nat} {t:Tmp} (hi:i < n) (hd:dstOf ops i=some t):((ops.toList.take n).map (·.dst))[i]? = some (some t):=by
 unfold dstOf at hd
 obtain ⟨o,ho,hdo⟩:=Option.bind_eq_some_iff.1 hd
 rw [List.getElem?_map,List.getElem?_take,if_pos hi,show ops.toList[i]? = some o from by simpa using ho]
 simp [hdo]
theorem ok_dst (h:regionOk ops n=true) {i j:Nat} {t:Tmp} (hji:j < i) (hi:i < n) (hd:dstOf ops j=some t):dstOf ops i≠some t:=fun he =>
 distinct_at (ok_parts h).2.1 hji (dst_at (by omega) hd) (dst_at hi he)
theorem ok_look (h:regionOk ops n=true) {i:Nat} (hi:i < n) {o:Oper} (ho:ops[i]? = some o) :
 (∀ cs b,o.op≠.select cs b)∧∀ t ∈ o.looksAt ops,∀ j,j < n→dstOf ops j=some t→Region.waitsFor .any ops i j=true∨Region.waitsFor .any ops j i=true:=by
 obtain ⟨h1,h2⟩:=rows_at (ok_parts h).2.2 (i:=i) (o:=o) (by rw [List.getElem?_take,if_pos hi]; simpa using ho) (deps_at ho)
 refine ⟨h1,fun t ht j hj hd=>?_⟩
 have h3:=look_at (h2 t ht) (dst_at hj hd)
 simp only [Nat.zero_add] at h3
 rcases h3 with h3 | h3
 · exact .inl (waits_deps.2 ⟨o,ho,h3⟩)
 ·refine .inr ?_
  unfold dstOf at hd
  obtain ⟨o',ho',_⟩:=Option.bind_eq_some_iff.1 hd
  rw [List.getD_eq_getElem?_getD,deps_at ho'] at h3
  exact waits_deps.2 ⟨o',ho',h3⟩
theorem ok_tail (h:tailOk ops n=true) {listed:Array Bool} (hc:Closed ops listed) {t i:Nat} (hn:n≤t) (ht:t < ops.size) (hi:i < t)
 (hd:∀ j,Region.waitsFor .any ops t j=true→listed.getD j false=true):listed.getD i false=true:=by
 have h1:=List.all_eq_true.1 h t (List.mem_range.2 ht)
 simp only [Bool.or_eq_true] at h1
 rcases h1 with h1 | h1
 · rw [Nat.blt_eq] at h1; omega
 · exact sink_listed hc h1 hd _ i rfl hi
def cnt (listed:Array Bool):Nat→Nat
 | 0=>0
 | k+1=>cnt listed k+if listed.getD k true=false then 1 else 0
theorem cnt_set {listed:Array Bool} {i:Nat} (hf:listed.getD i true=false):∀ {k:Nat},i < k→cnt (listed.setIfInBounds i true) k < cnt listed k
 | 0,h=>by omega
 | k+1,h=>by
   have hi:i < listed.size:=by
    rcases Nat.lt_or_ge i listed.size with h' | h'
    · exact h'
    · rw [Array.getD_eq_getD_getElem?,Array.getElem?_eq_none h'] at hf; cases hf
   by_cases hk:i=k
   ·subst hk
    have le:∀ m,m≤i→cnt (listed.setIfInBounds i true) m=cnt listed m:=by
     intro m
     induction m with
     | zero=>intro _; rfl
     | succ m ih=>intro hm; unfold cnt; rw [ih (by omega),getD_set_ne true (by omega)]
    unfold cnt
    rw [le i (Nat.le_refl _),if_pos hf,if_neg (by simp [hi])]
    omega
   ·unfold cnt
    have:=cnt_set hf (k:=k) (by omega)
    rw [getD_set_ne true hk]
    omega
theorem cnt_pos {listed:Array Bool} {i:Nat} (hf:listed.getD i true=false):∀ {k:Nat},i < k→0 < cnt listed k
 | 0,h=>by omega
 | k+1,h=>by
   unfold cnt
   by_cases hk:i=k
   · subst hk; rw [if_pos hf]; omega
   · have:=cnt_pos hf (k:=k) (by omega); omega
theorem getD_iff {listed:Array Bool} {i:Nat} (h:i < listed.size):listed.getD i true=listed.getD i false:=by simp [h]
theorem slotv_set (hok:regionOk ops n=true) {v:Nat→Value} {m m':Nat→Bool} {i:Nat} (hi:i < n) {x:Value} {t:Nat}
 (hm:m i=false) (hm':m' i=true) (hs:∀ k,k≠i→m' k=m k) :
 slotv ops a0 (fun k=>if k=i then x else v k) m' n t=if dstOf ops i=some t then (if t < a0.tmps.size then some x else none) else slotv ops a0 v m n t:=by
 by_cases hd:dstOf ops i=some t
 ·rw [if_pos hd]
  have h1:∀ k,k < n→dstOf ops k=some t→k=i:=by
   intro k hk hkd
   rcases Nat.lt_trichotomy k i with h | h | h
   · exact absurd hd (ok_dst hok h hi hkd)
   · exact h
   · exact absurd hkd (ok_dst hok h hk hd)
  have key:∀ q,i < q→q≤n→slotv ops a0 (fun k=>if k=i then x else v k) m' q t=if t < a0.tmps.size then some x else none:=by
   intro q
   induction q with
   | zero=>intro h; omega
   | succ q ih =>
     intro hq hqn
     by_cases he:q=i
     ·subst he
      unfold slotv
      rw [if_pos ⟨hm',hd⟩]
      simp
     ·unfold slotv
      rw [if_neg (fun hc=>he (h1 q (by omega) hc.2))]
      exact ih (by omega) (by omega)
  exact key n hi (Nat.le_refl _)
 ·rw [if_neg hd]
  apply slotv_congr
  intro k hk hkd
  have hki:k≠i:=fun e=>hd (e ▸ hkd)
  refine ⟨hs k hki,fun _=>?_⟩
  rw [if_neg hki]
theorem wanted_congr {o:Oper} {a C:Act} (h:∀ t ∈ o.looksAt ops,a.tmps[t]? = C.tmps[t]?):Region.wanted o (yielded ops a.tmps)=Region.wanted o (yielded ops C.tmps):=by
 unfold Region.wanted
 cases hg:o.guard with
 | none=>rfl
 | some gw =>
   obtain ⟨g,want⟩:=gw
   have hy:yielded ops a.tmps g=yielded ops C.tmps g:=by
    unfold yielded
    cases hd:(ops[g]?).bind (·.dst) with
    | none=>rfl
    | some d =>
      have hl:d ∈ o.looksAt ops:=by
       unfold Oper.looksAt
       rw [hg]
       simp [hd]
      simp only [Option.bind_some]
      rw [h d hl]
   simp only [hy]
structure Head (ops:Array Oper) (n:Nat) (vs:List Yield) (w0:World) (a0:Act) (v:Nat→Value) (listed:Array Bool) (a:Act) (w:World):Prop where
 frame:Fr ops a0 a v (fun k=>listed.getD k false) n
 closed:Closed ops listed
 size:listed.size=ops.size
 below:Below w0.heap.size w0 w
 facts:∀ i V,vs[i]? = some V→listed.getD i false=true→V.p (v i) w
 fits:Fits vs v
 tail:∀ t,n≤t→listed.getD t false=false
theorem act_ext {a b:Act} (hd:a.defers=b.defers) (ht:∀ t:Nat,a.tmps[t]? = b.tmps[t]?):a=b:=by
 cases a; cases b
 simp only at hd ht
 subst hd
 congr
 exact Array.ext_getElem? ht
theorem conf_tail (hok:regionOk ops n=true) (htl:tailOk ops n=true):∀ (d k:Nat),k+d=ops.size→n≤k→∀ (listed:Array Bool) (a:Act) (w:World) (fuel:Nat),
 listed.size=ops.size→(∀ i,i < k→listed.getD i false=true)→(∀ i,k≤i→listed.getD i false=false)→cnt listed ops.size≤fuel →
 wpList P ops Q (ops.toList.drop k) a w→wpAny P .any ops Q fuel listed a w:=by
 intro d
 induction d with
 | zero =>
   intro k hk hn listed a w fuel hs h1 h2 _ hw
   rw [List.drop_of_length_le (by simp; omega)] at hw
   have hr:Region.ready .any ops listed = []:=by
    cases hc:Region.ready .any ops listed with
    | nil=>rfl
    | cons x xs =>
      have hx:x ∈ Region.ready .any ops listed:=by rw [hc]; simp
      obtain ⟨hf,o,ho,_⟩:=mem_ready.1 hx
      have:=lt_of_at ho
      rw [getD_iff (by omega),h1 x (by omega)] at hf
      cases hf
   cases fuel with
   | zero=>exact ⟨hr,hw⟩
   | succ f=>exact ⟨fun _=>hw,fun i hi=>by rw [hr] at hi; cases hi⟩
 | succ d ih =>
   intro k hk hn listed a w fuel hs h1 h2 hc hw
   have hkl:k < ops.size:=by omega
   have hkf:listed.getD k true=false:=by rw [getD_iff (by omega)]; exact h2 k (Nat.le_refl _)
   have hclosed:Closed ops listed:=fun i j hi hwt=>by
    have:i < k:=by
     rcases Nat.lt_or_ge i k with h | h
     · exact h
     · rw [h2 i h] at hi; cases hi
    exact h1 j (by have:=ok_back hok hwt; omega)
   have hko:ops[k]? = some ops[k]:=Array.getElem?_eq_getElem hkl
   have hkr:k ∈ Region.ready .any ops listed:=mem_ready.2 ⟨hkf,ops[k],hko,fun e he hb=>h1 e.on (ok_back hok (waits_iff.2 ⟨_,hko,e,he,hb,rfl⟩))⟩
   have hp:=cnt_pos hkf hkl
   cases fuel with
   | zero=>omega
   | succ f =>
     refine ⟨fun h=>(by rw [h] at hkr; cases hkr),fun i hi=>?_⟩
     obtain ⟨hf,o,ho,hall⟩:=mem_ready.1 hi
     have hik:i=k:=by
      have hil:=lt_of_at ho
      rcases Nat.lt_trichotomy i k with h | h | h
      · rw [getD_iff (by omega),h1 i h] at hf; cases hf
      · exact h
      ·have:=ok_tail htl hclosed (t:=i) (i:=k) (by omega) hil h (fun j hj=>by
        obtain ⟨o',ho',e,he,hb,rfl⟩:=waits_iff.1 hj
        have:o' = o:=Option.some.inj (ho'.symm.trans ho)
        subst this
        exact hall e he hb)
       rw [h2 k (Nat.le_refl _)] at this
       cases this
     subst hik
     have hnext:∀ a' w',wpList P ops Q (ops.toList.drop (i+1)) a' w'→wpAny P .any ops Q f (listed.setIfInBounds i true) a' w':=fun a' w' h' =>
      ih (i+1) (by omega) (by omega) _ a' w' f (by simp [hs]) (fun j hj=>by
       by_cases hji:i=j
       · subst hji; simp [show i < listed.size by omega]
       · rw [getD_set_ne false hji]; exact h1 j (by omega)) (fun j hj=>by rw [getD_set_ne false (by omega)]; exact h2 j (by omega)) (by have:=cnt_set hkf hkl; omega) h'
     rw [List.drop_eq_getElem_cons (by simpa using hkl)] at hw
     unfold wpOp
     rw [hko]
     simp only
     have hoe:ops.toList[i]'(by simpa using hkl)=ops[i]:=by simp
     rw [hoe] at hw
     unfold wpList at hw
     split
     ·rename_i hwt
      rw [if_pos hwt] at hw
      exact hw.imp (Oper.wp_mono hnext) id
     ·rename_i hwt
      rw [if_neg hwt] at hw
      exact hnext _ _ hw
theorem head_pre {v:Nat→Value} {listed:Array Bool} {a:Act} {w:World} (H:Head ops n vs w0 a0 v listed a w) (hall:∀ i,i < n→listed.getD i false=true):a=pre ops a0 v n:=by
 refine act_ext (by rw [H.frame.defers,pre_defers]) fun t=>?_
 rw [H.frame.slot,pre_slot]
 exact slotv_congr fun k hk _=>⟨by rw [hall k hk],fun _=>rfl⟩
theorem conf_head (hok:regionOk ops n=true) (htl:tailOk ops n=true) (hn:n≤ops.size) (hlen:vs.length=n) (hO:Obs P ops w0 Q 0 ops.toList vs a0 []) :
 ∀ (fuel:Nat) (listed:Array Bool) (a:Act) (w:World) (v:Nat→Value),Head ops n vs w0 a0 v listed a w→cnt listed ops.size≤fuel→wpAny P .any ops Q fuel listed a w:=by
 intro fuel
 induction fuel with
 | zero =>
   intro listed a w v H hc
   have hall:∀ i,i < ops.size→listed.getD i false=true:=fun i hi=>by
    cases h:listed.getD i false with
    | true=>rfl
    | false =>
      have:=cnt_pos (listed:=listed) (i:=i) (by rw [getD_iff (by rw [H.size]; exact hi)]; exact h) hi
      omega
   have hnn:n=ops.size:=by
    rcases Nat.lt_or_ge n ops.size with h | h
    · have h1:=H.tail n (Nat.le_refl _); rw [hall n h] at h1; cases h1
    · omega
   have hF:=obs_at hO (by omega) H.fits n (by omega)
   rw [← hlen,List.drop_length,hlen] at hF
   unfold Obs at hF
   have hfin:=hF w H.below (fun e he=>by
    obtain ⟨h1,h2,h3⟩:=known_mem v he
    rw [h3]
    exact H.facts _ _ h2 (hall _ (by omega)))
   rw [← head_pre H (fun i hi=>hall i (by omega))] at hfin
   exact conf_tail hok htl 0 n (by omega) (Nat.le_refl _) listed a w 0 H.size (fun i hi=>hall i (by omega)) (fun i hi=>H.tail i hi) hc hfin
 | succ fuel ih =>
   intro listed a w v H hc
   by_cases hall:∀ i,i < n→listed.getD i false=true
   ·have hF:=obs_at hO (by omega) H.fits n (by omega)
    rw [← hlen,List.drop_length,hlen] at hF
    unfold Obs at hF
    have hfin:=hF w H.below (fun e he=>by
     obtain ⟨h1,h2,h3⟩:=known_mem v he
     rw [h3]
     exact H.facts _ _ h2 (hall _ h1))
    rw [← head_pre H hall] at hfin
    exact conf_tail hok htl (ops.size - n) n (by omega) (Nat.le_refl _) listed a w _ H.size hall (fun i hi=>H.tail i hi) hc hfin
   ·-- the least one that is not listed may come up
    have hex:∃ i,i < n∧listed.getD i false=false∧∀ j,j < i→listed.getD j false=true:=by
     have:∃ i,i < n∧listed.getD i false=false:=Classical.byContradiction fun hno=>hall fun i hi=>by
      cases h:listed.getD i false with
      | true=>rfl
      | false=>exact absurd ⟨i,hi,h⟩ hno
     obtain ⟨i,hi⟩:=this
     induction i using Nat.strongRecOn with
     | _ i ihn =>
       by_cases hj:∃ j,j < i∧listed.getD j false=false
       ·obtain ⟨j,hji,hjf⟩:=hj
        exact ihn j hji ⟨by omega,hjf⟩
       ·refine ⟨i,hi.1,hi.2,fun j hji=>?_⟩
        cases h:listed.getD j false with
        | true=>rfl
        | false=>exact absurd ⟨j,hji,h⟩ hj
    obtain ⟨l,hln,hlf,hlb⟩:=hex
    have hls:l < ops.size:=by omega
    have hlr:l ∈ Region.ready .any ops listed:=mem_ready.2 ⟨by rw [getD_iff (by rw [H.size]; exact hls)]; exact hlf,ops[l],Array.getElem?_eq_getElem hls,fun e he hb=>hlb e.on (ok_back hok (waits_iff.2 ⟨_,Array.getElem?_eq_getElem hls,e,he,hb,rfl⟩))⟩
    refine ⟨fun h=>(by rw [h] at hlr; cases hlr),fun i hi=>?_⟩
    obtain ⟨hf,o,ho,hdeps⟩:=mem_ready.1 hi
    have his:=lt_of_at ho
    have hw:∀ j,Region.waitsFor .any ops i j=true→listed.getD j false=true:=fun j hj=>by
     obtain ⟨o',ho',e,he,hb,rfl⟩:=waits_iff.1 hj
     have:o' = o:=Option.some.inj (ho'.symm.trans ho)
     subst this
     exact hdeps e he hb
    have hin:i < n:=by
     rcases Nat.lt_or_ge i n with h | h
     · exact h
     ·have:=ok_tail htl H.closed h his (i:=l) (by omega) hw
      rw [hlf] at this; cases this
    have hff:listed.getD i false=false:=by rw [← getD_iff (by rw [H.size]; exact his)]; exact hf
    have hF:=obs_at hO (by omega) H.fits i (by omega)
    have hvi:vs[i]? = some (vs[i]'(by omega)):=List.getElem?_eq_getElem (by omega)
    generalize hV:vs[i]'(by omega)=V at hvi
    rw [List.drop_eq_getElem_cons (by simpa using his),List.drop_eq_getElem_cons (by omega:i < vs.length),hV] at hF
    have hoe:ops.toList[i]'(by simpa using his)=o:=by
     have:=(Array.getElem?_eq_some_iff.1 ho).2
     simpa using this
    rw [hoe] at hF
    have hstep:=hF.1 w H.below (fun e he hwt=>by
     obtain ⟨h1,h2,h3⟩:=known_mem v he
     rw [h3]
     exact H.facts _ _ h2 (hw _ hwt))
    obtain ⟨hsel,hlook⟩:=ok_look hok hin ho
    have hslots:∀ t ∈ o.looksAt ops,a.tmps[t]? = (pre ops a0 v i).tmps[t]?:=fun t ht=>by
     rw [H.frame.slot,pre_slot]
     have e1:slotv ops a0 v (fun _=>true) i t=slotv ops a0 v (fun k=>decide (k < i)) n t:=by
      rw [slotv_beyond (m:=fun k=>decide (k < i)) (i:=i) (fun k hk=>by simp; omega) (by omega)]
      exact slotv_congr fun k hk _=>⟨by simp [hk],fun _=>rfl⟩
     rw [e1]
     refine slotv_congr fun k hk hkd=>⟨?_,fun _=>rfl⟩
     rcases hlook t ht k hk hkd with h | h
     ·rw [hw k h]
      have:=ok_back hok h
      simp [this]
     ·have hik:=ok_back hok h
      cases hkl:listed.getD k false with
      | true=>have:=H.closed k i hkl h; rw [hff] at this; cases this
      | false=>simp; omega
    have heval:∀ x ∈ o.op.operands,a.eval x=(pre ops a0 v i).eval x:=fun x hx=>by
     cases x with
     | tmp t =>
       have ht:t ∈ o.looksAt ops:=List.mem_append_left _ (List.mem_filterMap.2 ⟨.tmp t,by simpa using hx,rfl⟩)
       simp only [Act.eval,Array.getD_eq_getD_getElem?,hslots t ht]
     | _=>rfl
    have hexec:execOp a.eval o=execOp (pre ops a0 v i).eval o:=execOp_congr o hsel heval
    have hwant:=wanted_congr (ops:=ops) hslots
    have hsize:a.tmps.size=(pre ops a0 v i).tmps.size:=by rw [H.frame.size,pre_size]
    have hdst:dstOf ops i=o.dst:=by unfold dstOf; rw [ho]; rfl
    have hK:∀ x w',V.p x w'→Below w.heap.size w w'→wpAny P .any ops Q fuel (listed.setIfInBounds i true) (a.put o.dst x) w':=fun x w' hp hb=>by
     refine ih _ _ _ (fun k=>if k=i then x else v k) ?_ (by have:=cnt_set hf his; omega)
     have hil:i < listed.size:=by rw [H.size]; exact his
     refine ⟨⟨by rw [put_defers,H.frame.defers],by rw [put_size,H.frame.size],fun t=>?_⟩,?_,by simp [H.size],below2 H.below hb,?_,?_,fun t ht=>by rw [getD_set_ne false (by omega)]; exact H.tail t ht⟩
     · rw [put_slot,slotv_set hok (m:=fun k=>listed.getD k false) hin hff (by simp [hil]) (fun k hk=>getD_set_ne false (Ne.symm hk)),hdst,H.frame.size,H.frame.slot]
     ·intro j k hj hjk
      by_cases hji:i=j
      · subst hji; exact getD_set_true (hw k hjk)
      · rw [getD_set_ne false hji] at hj; exact getD_set_true (H.closed j k hj hjk)
     ·intro j V' hj hjl
      by_cases hji:j=i
      ·subst hji
       rw [hvi] at hj
       cases hj
       rw [if_pos rfl]; exact hp
      ·rw [getD_set_ne false (Ne.symm hji)] at hjl
       rw [if_neg hji]; exact V'.mono _ _ _ hb (H.facts j V' hj hjl)
     ·intro j V' d hj hcd
      by_cases hji:j=i
      ·subst hji
       rw [hvi] at hj
       cases hj
       show (if j=j then x else v j)=d
       rw [if_pos rfl]; exact V.tight d hcd x w' hp
      ·show (if j=i then x else v j)=d
       rw [if_neg hji]; exact H.fits j V' d hj hcd
    unfold wpOp
    rw [ho]
    simp only
    unfold wpList at hstep
    rw [hwant]
    split
    ·rename_i hwt
     rw [if_pos hwt] at hstep
     refine .inl ?_
     rcases hstep with hs | ⟨_,hs⟩
     ·unfold Oper.wp at hs ⊢
      rw [hexec]
      exact upon_move hsize hK hs
     · exact absurd hs letsOut_post
    ·rename_i hwt
     rw [if_neg hwt] at hstep
     obtain ⟨y,hy,hp,hb⟩:=hstep
     rw [put_same hsize hy]
     exact hK _ _ hp hb
theorem wp_region_conf {id:Nat} {a:Act} {w:World} (n:Nat) (vs:List Yield) (hm:P.follows .mixedOrders=true) (hok:regionOk ops n=true) (htl:tailOk ops n=true)
 (hn:decide (n≤ops.size)=true) (hlen:vs.length=n) (h:Obs P ops w.drew Q 0 ops.toList vs a []):(Code.region id ops true).wp P Q a w:=by
 refine wp_region_any hm ?_
 have hn':n≤ops.size:=of_decide_eq_true hn
 have hall:∀ l,cnt (Array.replicate ops.size false) l≤l:=by
  intro l
  induction l with
  | zero=>exact Nat.le_refl _
  | succ l ih=>unfold cnt; split <;> omega
 refine conf_head (vs:=vs) (v:=fun i=>((vs[i]?).bind (·.c)).getD undef) hok htl hn' hlen h ops.size (Array.replicate ops.size false) a w.drew ⟨⟨rfl,rfl,fun t=>?_⟩,?_,by simp,Below.refl _ _,?_,?_,?_⟩ (hall _)
 · rw [slotv_off (fun k _ _=>getD_replicate_false _ _)]
 · intro i j hi _; rw [getD_replicate_false] at hi; cases hi
 · intro i V _ hi; rw [getD_replicate_false] at hi; cases hi
 · intro i V d hi hd; simp [hi,hd]
 · intro t _; exact getD_replicate_false _ _
end
section
variable {P:Program} {ops:Array Oper} {w0:World} {Q:Exit→Act→World→Prop} {i:Nat} {o:Oper} {rest:List Oper} {Vs:List Yield} {C:Act} {kn:List (Nat × Yield × Value)}
theorem obs_is {d:Value} (h1:∀ w,Below w0.heap.size w0 w→(∀ e ∈ kn,Region.waitsFor .any ops i e.1=true→e.2.1.p e.2.2 w)→wpList P ops (Post (.is d) C o.dst w) [o] C w)
 (h2:Obs P ops w0 Q (i+1) rest Vs (C.put o.dst d) kn):Obs P ops w0 Q i (o::rest) (.is d::Vs) C kn:=⟨h1,h2⟩
theorem obs_slice {B n t:Nat} {cs:Array Value} (h1:∀ w,Below w0.heap.size w0 w→(∀ e ∈ kn,Region.waitsFor .any ops i e.1=true→e.2.1.p e.2.2 w)→wpList P ops (Post (.slice B n t cs) C o.dst w) [o] C w)
 (h2:∀ x,Obs P ops w0 Q (i+1) rest Vs (C.put o.dst x) ((i,.slice B n t cs,x)::kn)):Obs P ops w0 Q i (o::rest) (.slice B n t cs::Vs) C kn:=⟨h1,h2⟩
theorem obs_ptr {B t:Nat} {cs:Array Value} (h1:∀ w,Below w0.heap.size w0 w→(∀ e ∈ kn,Region.waitsFor .any ops i e.1=true→e.2.1.p e.2.2 w)→wpList P ops (Post (.ptr B t cs) C o.dst w) [o] C w)
 (h2:∀ x,Obs P ops w0 Q (i+1) rest Vs (C.put o.dst x) ((i,.ptr B t cs,x)::kn)):Obs P ops w0 Q i (o::rest) (.ptr B t cs::Vs) C kn:=⟨h1,h2⟩
theorem obs_end {tail:List Oper} (h:∀ w,Below w0.heap.size w0 w→(∀ e ∈ kn,e.2.1.p e.2.2 w)→wpList P ops Q tail C w):Obs P ops w0 Q i tail [] C kn:=by
 cases tail <;> exact h
theorem post_is {d:Value} {C:Act} {D:Option Tmp} {w1 w:World} (hb:Below w1.heap.size w1 w):Post (.is d) C D w1 .normal (C.put D d) w:=⟨d,rfl,rfl,hb⟩
end
/-! For wide frames: an operation walked without the region's text, its frame made anew beside it. -/
theorem post_eq {d:Value} {C a:Act} {D:Option Tmp} {w1 w:World} (h:a=C.put D d) (hb:Below w1.heap.size w1 w):Post (.is d) C D w1 .normal a w:=⟨d,h,rfl,hb⟩
theorem step_bare {P:Program} {ops:Array Oper} {Q:Exit→Act→World→Prop} {o:Oper} {C:Act} {w:World} (hq:¬ LetsOut Q) (hw:Region.wanted o (yielded ops C.tmps)=true)
 (h:wpList P #[] Q [{ o with guard:=none }] C w):wpList P ops Q [o] C w:=by
 unfold wpList at h ⊢
 rw [if_pos (by simp [Region.wanted])] at h
 rw [if_pos hw]
 rcases h with h | ⟨_,h⟩
 · exact .inl h
 · exact absurd h hq
section
variable {P:Program} {ops:Array Oper} {w0:World} {Q:Exit→Act→World→Prop} {i:Nat} {o:Oper} {rest:List Oper} {Vs:List Yield} {C C':Act} {kn:List (Nat × Yield × Value)}
theorem obs_step {d:Value} (hw:Region.wanted o (yielded ops C.tmps)=true)
 (h1:∀ w,Below w0.heap.size w0 w→(∀ e ∈ kn,Region.waitsFor .any ops i e.1=true→e.2.1.p e.2.2 w)→wpList P #[] (Post (.is d) C o.dst w) [{ o with guard:=none }] C w)
 (hC:C.put o.dst d=C') (h2:Obs P ops w0 Q (i+1) rest Vs C' kn):Obs P ops w0 Q i (o::rest) (.is d::Vs) C kn :=
 ⟨fun w hb hk=>step_bare letsOut_post hw (h1 w hb hk),by subst hC; exact h2⟩
theorem obs_skip (hw:Region.wanted o (yielded ops C.tmps)=false) (hC:C.put o.dst undef=C') (h2:Obs P ops w0 Q (i+1) rest Vs C' kn):Obs P ops w0 Q i (o::rest) (.is undef::Vs) C kn :=
 ⟨fun w _ _=>by
   unfold wpList
   rw [if_neg (by rw [hw]; simp)]
   exact post_is (Below.refl _ _),by subst hC; exact h2⟩
theorem obs_step_slice {B n t:Nat} {cs:Array Value} {F:Value→Act} (hw:Region.wanted o (yielded ops C.tmps)=true)
 (h1:∀ w,Below w0.heap.size w0 w→(∀ e ∈ kn,Region.waitsFor .any ops i e.1=true→e.2.1.p e.2.2 w)→wpList P #[] (Post (.slice B n t cs) C o.dst w) [{ o with guard:=none }] C w)
 (hC:∀ x,C.put o.dst x=F x) (h2:∀ x,Obs P ops w0 Q (i+1) rest Vs (F x) ((i,.slice B n t cs,x)::kn)):Obs P ops w0 Q i (o::rest) (.slice B n t cs::Vs) C kn :=
 ⟨fun w hb hk=>step_bare letsOut_post hw (h1 w hb hk),fun x=>by have:=h2 x; rw [← hC x] at this; exact this⟩
end
end Go.Proofs.YthkbcfhjmnpggaaGreat
