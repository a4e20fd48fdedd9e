/- Texts that belong together, joined: RegionY, RecG, RecLong. -/
import Derived.Test.YthkbcfhjmnpggaaGreatK04
import Derived.Test.YthkbcfhjmnpggaaGreatK01
import Derived.Lib.AppendStr
import Derived.Laws.Shifts
namespace Go.Proofs.YthkbcfhjmnpggaaGreat
open Go.RowKit
structure YieldY (S:Nat→Prop) where
 c:Option Value
 p:Value→World→Prop
 mono:∀ x w w',Spare S w w'→p x w→p x w'
 tight:∀ d,c=some d→∀ x w,p x w→x=d
section
variable {S:Nat→Prop}
def YieldY.is (d:Value):YieldY S:=⟨some d,fun x _=>x=d,fun _ _ _ _ h=>h,fun d' h x w e=>by cases h; exact e⟩
def YieldY.of (p:Value→World→Prop) (m:∀ x w w',Spare S w w'→p x w→p x w'):YieldY S:=⟨none,p,m,fun _ h=>(by cases h)⟩
def PostY (wr:Bool) (V:YieldY S) (r:World→Prop) (C:Act) (d:Option Tmp) (w1:World):Exit→Act→World→Prop
 | .normal,a,w=>∃ x,a=C.put d x∧V.p x w∧(if wr then Spare S w1 w∧r w else Below w1.heap.size w1 w)
 | _,_,_=>False
end
section
variable (P:Program) (ops:Array Oper) {S:Nat→Prop} (j:Nat) (q r:World→Prop) (w0:World) (Q:Exit→Act→World→Prop)
def ObsY:Nat→List Oper→List (YieldY S)→Act→List (Nat × YieldY S × Value)→Prop
 | _,tail,[],C,kn=>∀ w,Spare S w0 w→r w→(∀ e ∈ kn,e.2.1.p e.2.2 w)→wpList P ops Q tail C w
 | _,[],_::_,_,_=>False
 | i,o::rest,V::Vs,C,kn =>
   (∀ w,Spare S w0 w→(i=j∨Region.waitsFor .any ops j i=true→q w)→(∀ e ∈ kn,Region.waitsFor .any ops i e.1=true→e.2.1.p e.2.2 w)→wpList P ops (PostY (Nat.beq i j) V r C o.dst w) [o] C w) ∧
   match V.c with
   | some d=>ObsY (i+1) rest Vs (C.put o.dst d) kn
   | none=>∀ x,ObsY (i+1) rest Vs (C.put o.dst x) ((i,V,x)::kn)
end
section
variable {P:Program} {ops:Array Oper} {S:Nat→Prop}
theorem letsOut_postY {wr:Bool} {V:YieldY S} {r:World→Prop} {C:Act} {d:Option Tmp} {w1:World}:¬ LetsOut (PostY wr V r C d w1):=fun ⟨_,_,h⟩=>h
theorem uponY_move {o:Oper} {a C:Act} (hs:a.tmps.size=C.tmps.size) {wr:Bool} {V:YieldY S} {r:World→Prop} {w1:World} {K:Act→World→Prop} {Q:Exit→Act→World→Prop}
 (hK:∀ x w,V.p x w→(if wr then Spare S w1 w∧r w else Below w1.heap.size w1 w)→K (a.put o.dst x) w) {rr:Result Next} (h:o.upon P C (PostY wr V r C o.dst w1 .normal) (PostY wr V r C o.dst w1) rr):o.upon P a K Q rr:=by
 have any:∀ x w,PostY wr V r C o.dst w1 .normal (C.put o.dst x) w→K (a.put o.dst x) w:=by
  rintro x w ⟨y,hy,hp,hb⟩
  rw [put_same hs hy]
  exact hK _ _ hp hb
 cases rr with
 | ok n w' =>
   cases n <;> simp only [Oper.upon] at h ⊢
   case value x=>exact any _ _ h
   case skip=>exact any _ _ h
   case defer d =>
    obtain ⟨y,hy,_,_⟩:=h
    have e:=congrArg Act.defers hy
    rw [put_defers,put_defers] at e
    exact absurd (congrArg List.length e) (by simp)
   case enter f args =>
    refine h.mono fun e w'' he=>?_
    cases e with
    | returned v=>exact any _ _ he
    | panicked c=>exact (he:False).elim
    | outgrown=>exact absurd he letsOut_postY
   case row row args=>exact Rows.mono h fun v w'' he=>any _ _ he
 | halt x w'=>cases x <;> simp only [Oper.upon] at h ⊢ <;> exact (h:False).elim
end
section
variable {P:Program} {ops:Array Oper} {n jj:Nat} {S:Nat→Prop} {qq rr:World→Prop} {vs:List (YieldY S)} {w0:World} {a0:Act} {Q:Exit→Act→World→Prop}
def knownY {S:Nat→Prop} (vs:List (YieldY S)) (v:Nat→Value):Nat→List (Nat × YieldY S × Value)
 | 0=>[]
 | i+1=>match vs[i]? with
   | some V=>if V.c.isSome then knownY vs v i else (i,V,v i)::knownY vs v i
   | none=>knownY vs v i
theorem knownY_mem (v:Nat→Value):∀ {i:Nat} {e:Nat × YieldY S × Value},e ∈ knownY vs v i→e.1 < i∧vs[e.1]? = some e.2.1∧e.2.2=v e.1
 | 0,e,h=>by cases h
 | i+1,e,h=>by
   unfold knownY at h
   split at h
   ·rename_i V hV
    split at h
    · obtain ⟨h1,h2⟩:=knownY_mem v h; exact ⟨by omega,h2⟩
    ·rcases List.mem_cons.1 h with rfl | h
     · exact ⟨by simp,hV,rfl⟩
     · obtain ⟨h1,h2⟩:=knownY_mem v h; exact ⟨by omega,h2⟩
   · obtain ⟨h1,h2⟩:=knownY_mem v h; exact ⟨by omega,h2⟩
def FitsY {S:Nat→Prop} (vs:List (YieldY S)) (v:Nat→Value):Prop:=∀ i V d,vs[i]? = some V→V.c=some d→v i=d
theorem obsY_at (hO:ObsY P ops jj qq rr w0 Q 0 ops.toList vs a0 []) (hl:vs.length≤ops.size) {v:Nat→Value} (hf:FitsY vs v) :
 ∀ i,i≤vs.length→ObsY P ops jj qq rr w0 Q i (ops.toList.drop i) (vs.drop i) (pre ops a0 v i) (knownY vs v i)
 | 0,_=>by simp only [List.drop_zero]; exact hO
 | i+1,hi=>by
   have ih:=obsY_at hO hl hf i (by omega)
   rw [List.drop_eq_getElem_cons (by simp; omega:i < ops.toList.length),List.drop_eq_getElem_cons (by omega:i < vs.length)] at ih
   have hd:dstOf ops i=(ops.toList[i]'(by simp; omega)).dst:=by
    unfold dstOf
    rw [Array.getElem?_eq_getElem (by omega)]
    simp
   have hv:vs[i]? = some (vs[i]'(by omega)):=List.getElem?_eq_getElem (by omega)
   have h2:=ih.2
   rw [pre,hd]
   unfold knownY
   rw [hv]
   simp only
   cases hc:(vs[i]'(by omega)).c with
   | some d =>
     rw [hc] at h2
     rw [hf i _ d hv hc]
     simpa [hc] using h2
   | none =>
     rw [hc] at h2
     simpa [hc] using h2 (v i)
structure HeadY (ops:Array Oper) (n jj:Nat) {S:Nat→Prop} (qq rr:World→Prop) (vs:List (YieldY S)) (w0:World) (a0:Act) (v:Nat→Value) (listed:Array Bool) (a:Act) (w:World):Prop where
 frame:Fr ops a0 a v (fun k=>listed.getD k false) n
 closed:Closed ops listed
 size:listed.size=ops.size
 spare:Spare S w0 w
 ahead:listed.getD jj false=false→qq w
 stored:listed.getD jj false=true→rr w
 facts:∀ i V,vs[i]? = some V→listed.getD i false=true→V.p (v i) w
 fits:FitsY vs v
 tail:∀ t,n≤t→listed.getD t false=false
theorem headY_pre {v:Nat→Value} {listed:Array Bool} {a:Act} {w:World} (H:HeadY ops n jj qq rr vs w0 a0 v listed a w) (hall:∀ i,i < n→listed.getD i false=true):a=pre ops a0 v n:=by
 refine act_ext (by rw [H.frame.defers,pre_defers]) fun t=>?_
 rw [H.frame.slot,pre_slot]
 exact slotv_congr fun k hk _=>⟨by rw [hall k hk],fun _=>rfl⟩
theorem confY_head (hok:regionOk ops n=true) (htl:tailOk ops n=true) (hn:n≤ops.size) (hlen:vs.length=n) (hj:jj < n) (hqs:∀ w w',Below w.heap.size w w'→qq w→qq w') (hrs:∀ w w',Below w.heap.size w w'→rr w→rr w') (hO:ObsY P ops jj qq rr w0 Q 0 ops.toList vs a0 []) :
 ∀ (fuel:Nat) (listed:Array Bool) (a:Act) (w:World) (v:Nat→Value),HeadY ops n jj qq rr vs w0 a0 v listed a w→cnt listed ops.size≤fuel→wpAny P .any ops Q fuel listed a w:=by
 intro fuel
 induction fuel with
 | zero =>
   intro listed a w v H hc
   have hall:∀ i,i < ops.size→listed.getD i false=true:=fun i hi=>by
    cases h:listed.getD i false with
    | true=>rfl
    | false =>
      have:=cnt_pos (listed:=listed) (i:=i) (by rw [getD_iff (by rw [H.size]; exact hi)]; exact h) hi
      omega
   have hnn:n=ops.size:=by
    rcases Nat.lt_or_ge n ops.size with h | h
    · have h1:=H.tail n (Nat.le_refl _); rw [hall n h] at h1; cases h1
    · omega
   have hF:=obsY_at hO (by omega) H.fits n (by omega)
   rw [← hlen,List.drop_length,hlen] at hF
   unfold ObsY at hF
   have hfin:=hF w H.spare (H.stored (hall jj (by omega))) (fun e he=>by
    obtain ⟨h1,h2,h3⟩:=knownY_mem v he
    rw [h3]
    exact H.facts _ _ h2 (hall _ (by omega)))
   rw [← headY_pre H (fun i hi=>hall i (by omega))] at hfin
   exact conf_tail hok htl 0 n (by omega) (Nat.le_refl _) listed a w 0 H.size (fun i hi=>hall i (by omega)) (fun i hi=>H.tail i hi) hc hfin
 | succ fuel ih =>
   intro listed a w v H hc
   by_cases hall:∀ i,i < n→listed.getD i false=true
   ·have hF:=obsY_at hO (by omega) H.fits n (by omega)
    rw [← hlen,List.drop_length,hlen] at hF
    unfold ObsY at hF
    have hfin:=hF w H.spare (H.stored (hall jj hj)) (fun e he=>by
     obtain ⟨h1,h2,h3⟩:=knownY_mem v he
     rw [h3]
     exact H.facts _ _ h2 (hall _ h1))
    rw [← headY_pre H hall] at hfin
    exact conf_tail hok htl (ops.size - n) n (by omega) (Nat.le_refl _) listed a w _ H.size hall (fun i hi=>H.tail i hi) hc hfin
   ·-- the least one that is not listed may come up
    have hex:∃ i,i < n∧listed.getD i false=false∧∀ j,j < i→listed.getD j false=true:=by
     have:∃ i,i < n∧listed.getD i false=false:=Classical.byContradiction fun hno=>hall fun i hi=>by
      cases h:listed.getD i false with
      | true=>rfl
      | false=>exact absurd ⟨i,hi,h⟩ hno
     obtain ⟨i,hi⟩:=this
     induction i using Nat.strongRecOn with
     | _ i ihn =>
       by_cases hj:∃ j,j < i∧listed.getD j false=false
       ·obtain ⟨j,hji,hjf⟩:=hj
        exact ihn j hji ⟨by omega,hjf⟩
       ·refine ⟨i,hi.1,hi.2,fun j hji=>?_⟩
        cases h:listed.getD j false with
        | true=>rfl
        | false=>exact absurd ⟨j,hji,h⟩ hj
    obtain ⟨l,hln,hlf,hlb⟩:=hex
    have hls:l < ops.size:=by omega
    have hlr:l ∈ Region.ready .any ops listed:=mem_ready.2 ⟨by rw [getD_iff (by rw [H.size]; exact hls)]; exact hlf,ops[l],Array.getElem?_eq_getElem hls,fun e he hb=>hlb e.on (ok_back hok (waits_iff.2 ⟨_,Array.getElem?_eq_getElem hls,e,he,hb,rfl⟩))⟩
    refine ⟨fun h=>(by rw [h] at hlr; cases hlr),fun i hi=>?_⟩
    obtain ⟨hf,o,ho,hdeps⟩:=mem_ready.1 hi
    have his:=lt_of_at ho
    have hw:∀ j,Region.waitsFor .any ops i j=true→listed.getD j false=true:=fun j hj=>by
     obtain ⟨o',ho',e,he,hb,rfl⟩:=waits_iff.1 hj
     have:o' = o:=Option.some.inj (ho'.symm.trans ho)
     subst this
     exact hdeps e he hb
    have hin:i < n:=by
     rcases Nat.lt_or_ge i n with h | h
     · exact h
     ·have:=ok_tail htl H.closed h his (i:=l) (by omega) hw
      rw [hlf] at this; cases this
    have hff:listed.getD i false=false:=by rw [← getD_iff (by rw [H.size]; exact his)]; exact hf
    have hF:=obsY_at hO (by omega) H.fits i (by omega)
    have hvi:vs[i]? = some (vs[i]'(by omega)):=List.getElem?_eq_getElem (by omega)
    generalize hV:vs[i]'(by omega)=V at hvi
    rw [List.drop_eq_getElem_cons (by simpa using his),List.drop_eq_getElem_cons (by omega:i < vs.length),hV] at hF
    have hoe:ops.toList[i]'(by simpa using his)=o:=by
     have:=(Array.getElem?_eq_some_iff.1 ho).2
     simpa using this
    rw [hoe] at hF
    have hstep:=hF.1 w H.spare (fun e=>H.ahead (by
     rcases e with e | e
     · rw [← e]; exact hff
     ·cases hjl:listed.getD jj false with
      | false=>rfl
      | true=>have:=H.closed jj i hjl e; rw [hff] at this; cases this)) (fun e he hwt=>by
     obtain ⟨h1,h2,h3⟩:=knownY_mem v he
     rw [h3]
     exact H.facts _ _ h2 (hw _ hwt))
    obtain ⟨hsel,hlook⟩:=ok_look hok hin ho
    have hslots:∀ t ∈ o.looksAt ops,a.tmps[t]? = (pre ops a0 v i).tmps[t]?:=fun t ht=>by
     rw [H.frame.slot,pre_slot]
     have e1:slotv ops a0 v (fun _=>true) i t=slotv ops a0 v (fun k=>decide (k < i)) n t:=by
      rw [slotv_beyond (m:=fun k=>decide (k < i)) (i:=i) (fun k hk=>by simp; omega) (by omega)]
      exact slotv_congr fun k hk _=>⟨by simp [hk],fun _=>rfl⟩
     rw [e1]
     refine slotv_congr fun k hk hkd=>⟨?_,fun _=>rfl⟩
     rcases hlook t ht k hk hkd with h | h
     ·rw [hw k h]
      have:=ok_back hok h
      simp [this]
     ·have hik:=ok_back hok h
      cases hkl:listed.getD k false with
      | true=>have:=H.closed k i hkl h; rw [hff] at this; cases this
      | false=>simp; omega
    have heval:∀ x ∈ o.op.operands,a.eval x=(pre ops a0 v i).eval x:=fun x hx=>by
     cases x with
     | tmp t =>
       have ht:t ∈ o.looksAt ops:=List.mem_append_left _ (List.mem_filterMap.2 ⟨.tmp t,by simpa using hx,rfl⟩)
       simp only [Act.eval,Array.getD_eq_getD_getElem?,hslots t ht]
     | _=>rfl
    have hexec:execOp a.eval o=execOp (pre ops a0 v i).eval o:=execOp_congr o hsel heval
    have hwant:=wanted_congr (ops:=ops) hslots
    have hsize:a.tmps.size=(pre ops a0 v i).tmps.size:=by rw [H.frame.size,pre_size]
    have hdst:dstOf ops i=o.dst:=by unfold dstOf; rw [ho]; rfl
    have hK:∀ x w',V.p x w'→(if Nat.beq i jj then Spare S w w'∧rr w' else Below w.heap.size w w')→wpAny P .any ops Q fuel (listed.setIfInBounds i true) (a.put o.dst x) w':=fun x w' hp hb=>by
     refine ih _ _ _ (fun k=>if k=i then x else v k) ?_ (by have:=cnt_set hf his; omega)
     have hil:i < listed.size:=by rw [H.size]; exact his
     have hne:i≠jj→Nat.beq i jj=false:=fun hij=>by
      cases hq:Nat.beq i jj with
      | false=>rfl
      | true=>exact absurd (Nat.eq_of_beq_eq_true hq) hij
     have hsp:Spare S w w':=by
      split at hb
      · exact hb.1
      · exact .ofBelow hb
     refine ⟨⟨by rw [put_defers,H.frame.defers],by rw [put_size,H.frame.size],fun t=>?_⟩,?_,by simp [H.size],H.spare.trans hsp,?_,?_,?_,?_,fun t ht=>by rw [getD_set_ne false (by omega)]; exact H.tail t ht⟩
     · rw [put_slot,slotv_set hok (m:=fun k=>listed.getD k false) hin hff (by simp [hil]) (fun k hk=>getD_set_ne false (Ne.symm hk)),hdst,H.frame.size,H.frame.slot]
     ·intro j k hj hjk
      by_cases hji:i=j
      · subst hji; exact getD_set_true (hw k hjk)
      · rw [getD_set_ne false hji] at hj; exact getD_set_true (H.closed j k hj hjk)
     ·intro hjl
      by_cases hij:i=jj
      · rw [hij,show (listed.setIfInBounds jj true).getD jj false=true by rw [← hij]; simp [hil]] at hjl; cases hjl
      ·rw [getD_set_ne false hij] at hjl
       rw [hne hij] at hb
       exact hqs _ _ hb (H.ahead hjl)
     ·intro hjl
      by_cases hij:i=jj
      ·subst hij
       rw [show Nat.beq i i=true from Nat.beq_refl i] at hb
       exact hb.2
      ·rw [getD_set_ne false hij] at hjl
       rw [hne hij] at hb
       exact hrs _ _ hb (H.stored hjl)
     ·intro j V' hj hjl
      by_cases hji:j=i
      ·subst hji
       rw [hvi] at hj
       cases hj
       rw [if_pos rfl]; exact hp
      ·rw [getD_set_ne false (Ne.symm hji)] at hjl
       rw [if_neg hji]
       exact V'.mono _ _ _ hsp (H.facts j V' hj hjl)
     ·intro j V' d hj hcd
      by_cases hji:j=i
      ·subst hji
       rw [hvi] at hj
       cases hj
       show (if j=j then x else v j)=d
       rw [if_pos rfl]; exact V.tight d hcd x w' hp
      ·show (if j=i then x else v j)=d
       rw [if_neg hji]; exact H.fits j V' d hj hcd
    unfold wpOp
    rw [ho]
    simp only
    unfold wpList at hstep
    rw [hwant]
    split
    ·rename_i hwt
     rw [if_pos hwt] at hstep
     refine .inl ?_
     rcases hstep with hs | ⟨_,hs⟩
     ·unfold Oper.wp at hs ⊢
      rw [hexec]
      exact uponY_move hsize hK hs
     · exact absurd hs letsOut_postY
    ·rename_i hwt
     rw [if_neg hwt] at hstep
     obtain ⟨y,hy,hp,hb⟩:=hstep
     rw [put_same hsize hy]
     exact hK _ _ hp hb
theorem wp_region_stored {id:Nat} {a:Act} {w:World} (n jj:Nat) (S:Nat→Prop) (q r:World→Prop) (vs:List (YieldY S)) (hm:P.follows .mixedOrders=true) (hok:regionOk ops n=true) (htl:tailOk ops n=true)
 (hn:decide (n≤ops.size)=true) (hj:decide (jj < n)=true) (hlen:vs.length=n) (hq0:q w) (hq:∀ w w',Below w.heap.size w w'→q w→q w') (hr:∀ w w',Below w.heap.size w w'→r w→r w') (h:ObsY P ops jj q r w.drew Q 0 ops.toList vs a []):(Code.region id ops true).wp P Q a w:=by
 refine wp_region_any hm ?_
 have hn':n≤ops.size:=of_decide_eq_true hn
 have hall:∀ l,cnt (Array.replicate ops.size false) l≤l:=by
  intro l
  induction l with
  | zero=>exact Nat.le_refl _
  | succ l ih=>unfold cnt; split <;> omega
 refine confY_head (vs:=vs) (v:=fun i=>((vs[i]?).bind (·.c)).getD undef) hok htl hn' hlen (of_decide_eq_true hj) hq hr h ops.size (Array.replicate ops.size false) a w.drew ⟨⟨rfl,rfl,fun t=>?_⟩,?_,by simp,.refl _ _,fun _=>hq _ _ (Below.refl _ _).drew hq0,?_,?_,?_,?_⟩ (hall _)
 · rw [slotv_off (fun k _ _=>getD_replicate_false _ _)]
 · intro i j hi _; rw [getD_replicate_false] at hi; cases hi
 · intro hi; rw [getD_replicate_false] at hi; cases hi
 · intro i V _ hi; rw [getD_replicate_false] at hi; cases hi
 · intro i V d hi hd; simp [hi,hd]
 · intro t _; exact getD_replicate_false _ _
end
section
variable {P:Program} {ops:Array Oper} {S:Nat→Prop} {jj:Nat} {q r:World→Prop} {w0:World} {Q:Exit→Act→World→Prop} {i:Nat} {o:Oper} {rest:List Oper} {Vs:List (YieldY S)} {C:Act} {kn:List (Nat × YieldY S × Value)}
theorem postY_is {d:Value} {D:Option Tmp} {w1 w:World} (hb:Below w1.heap.size w1 w):PostY (S:=S) false (.is d) r C D w1 .normal (C.put D d) w:=⟨d,rfl,rfl,hb⟩
theorem postY_of {p:Value→World→Prop} {m:∀ x w w',Spare S w w'→p x w→p x w'} {x:Value} {D:Option Tmp} {w1 w:World} (hp:p x w) (hb:Below w1.heap.size w1 w):PostY (S:=S) false (.of p m) r C D w1 .normal (C.put D x) w:=⟨x,rfl,hp,hb⟩
theorem postY_stored {d:Value} {D:Option Tmp} {w1 w:World} (hb:Spare S w1 w) (hr:r w):PostY (S:=S) true (.is d) r C D w1 .normal (C.put D d) w:=⟨d,rfl,rfl,hb,hr⟩
theorem obsY_is {d:Value} (hij:Nat.beq i jj=false) (h1:∀ w,Spare S w0 w→(∀ e ∈ kn,Region.waitsFor .any ops i e.1=true→e.2.1.p e.2.2 w)→wpList P ops (PostY (S:=S) false (.is d) r C o.dst w) [o] C w)
 (h2:ObsY P ops jj q r w0 Q (i+1) rest Vs (C.put o.dst d) kn):ObsY P ops jj q r w0 Q i (o::rest) (.is d::Vs) C kn:=⟨fun w hs _ hk=>by rw [hij]; exact h1 w hs hk,h2⟩
theorem obsY_read {d:Value} (hij:Nat.beq i jj=false) (hwt:Region.waitsFor .any ops jj i=true) (h1:∀ w,Spare S w0 w→q w→(∀ e ∈ kn,Region.waitsFor .any ops i e.1=true→e.2.1.p e.2.2 w)→wpList P ops (PostY (S:=S) false (.is d) r C o.dst w) [o] C w)
 (h2:ObsY P ops jj q r w0 Q (i+1) rest Vs (C.put o.dst d) kn):ObsY P ops jj q r w0 Q i (o::rest) (.is d::Vs) C kn:=⟨fun w hs hq hk=>by rw [hij]; exact h1 w hs (hq (.inr hwt)) hk,h2⟩
theorem obsY_of {p:Value→World→Prop} {m:∀ x w w',Spare S w w'→p x w→p x w'} (hij:Nat.beq i jj=false) (h1:∀ w,Spare S w0 w→(∀ e ∈ kn,Region.waitsFor .any ops i e.1=true→e.2.1.p e.2.2 w)→wpList P ops (PostY (S:=S) false (.of p m) r C o.dst w) [o] C w)
 (h2:∀ x,ObsY P ops jj q r w0 Q (i+1) rest Vs (C.put o.dst x) ((i,.of p m,x)::kn)):ObsY P ops jj q r w0 Q i (o::rest) (.of p m::Vs) C kn:=⟨fun w hs _ hk=>by rw [hij]; exact h1 w hs hk,h2⟩
theorem obsY_store {d:Value} (h1:∀ w,Spare S w0 w→q w→(∀ e ∈ kn,Region.waitsFor .any ops jj e.1=true→e.2.1.p e.2.2 w)→wpList P ops (PostY (S:=S) true (.is d) r C o.dst w) [o] C w)
 (h2:ObsY P ops jj q r w0 Q (jj+1) rest Vs (C.put o.dst d) kn):ObsY P ops jj q r w0 Q jj (o::rest) (.is d::Vs) C kn:=⟨fun w hs hq hk=>by rw [show Nat.beq jj jj=true from Nat.beq_refl jj]; exact h1 w hs (hq (.inl rfl)) hk,h2⟩
theorem obsY_end {tail:List Oper} (h:∀ w,Spare S w0 w→r w→(∀ e ∈ kn,e.2.1.p e.2.2 w)→wpList P ops Q tail C w):ObsY P ops jj q r w0 Q i tail [] C kn:=by
 cases tail <;> exact h
end
end Go.Proofs.YthkbcfhjmnpggaaGreat

namespace Go.Proofs.YthkbcfhjmnpggaaGreat
open Go.RowKit
def bytesL (l:List UInt8):List Value:=l.map fun b=>Value.int .u8 (b.toNat:Int)
theorem bytesL_app (a b:List UInt8):bytesL (a++b)=bytesL a++bytesL b:=by simp [bytesL]
theorem bytesL_len (a:List UInt8):(bytesL a).length=a.length:=by simp [bytesL]
structure Buf (w0 w:World) (v:Value) (l:List UInt8):Prop where
 own:w.ownsRow w0.heap.size 5 1 v l.length (bytesL l)
 below:Below w0.heap.size w0 w
namespace Buf
variable {w0 w w':World} {v v':Value} {l c:List UInt8}
theorem le (h:Buf w0 w v l):w0.heap.size≤w.heap.size:=h.below.size
theorem more (h:Buf w0 w v l) (hb:Below w.heap.size w w'):Buf w0 w' v l:=⟨own_below h.own hb,h.below.trans (hb.mono h.le)⟩
theorem grow {m:Nat} {cells:List Value} (h:Buf w0 w v l) (ho:w'.ownsRow w0.heap.size 5 1 v' (l.length+m) (bytesL l++cells)) (hg:w.grownBy w' v.ownBlock) (hc:cells=bytesL c):Buf w0 w' v' (l++c):=by
 have hm:(bytesL l++cells).length=(l.length+m)*1:=ho.1
 subst hc
 rw [List.length_append,bytesL_len,bytesL_len] at hm
 refine ⟨?_,⟨hg.os.trans h.below.os,hg.tape.trans h.below.tape,hg.output.trans h.below.output,Nat.le_trans h.below.size hg.size,fun b hb=>?_⟩⟩
 ·rw [List.length_append,bytesL_app,show l.length+c.length=l.length+m from by omega]
  exact ho
 · exact (hg.block b (Nat.lt_of_lt_of_le hb h.le) fun e=>by have:=(h.own.lt b e.symm).1; omega).trans (h.below.block b hb)
theorem blk {g t:Nat} {cs:Array Value} (h:Buf w0 w v l) (ho:Only (fun b=>v.ownBlock=some b) w w') (hb:Blk w g t cs) (ht:5≠t):Blk w' g t cs:=ho.blk hb (own_blk h.own hb ht)
end Buf
theorem only_grown {w w1 w':World} {v:Value} (hb:Below w.heap.size w w1) (hg:w1.grownBy w' v.ownBlock):Only (fun b=>v.ownBlock=some b) w w' :=
 (Only.ofBelow hb).grown hg fun _ h=>.inl h
theorem info_byte:(Tryz.prog.info? 5).map (fun i=>(i.zero,i.size,i.bytes))=some (some (.int .u8 0),1,1):=by kernel_rfl
theorem beI_cells (n:Int):[Value.int .u8 (n / 16777216 % 256),.int .u8 (n / 65536 % 256),.int .u8 (n / 256 % 256),.int .u8 (n % 256)]=bytesL (beI n):=by
 simp only [bytesL,beI,be4,List.map_cons,List.map_nil,List.cons.injEq,Value.int.injEq,true_and,and_true]
 refine ⟨?_,?_,?_,?_⟩ <;> simp <;> omega
set_option maxRecDepth 100000 in
set_option maxHeartbeats 2000000 in
theorem appendNumber_any {w0 w:World} {v:Value} {l:List UInt8} (h:Buf w0 w v l) (hl:l.length≤100000) (n:Int) :
 Calls Tryz.prog 98 #[v,.int .i64 n] w fun e w'=>∃ v',e=.returned v'∧Buf w0 w' v' (l++beI n)∧Only (fun b=>v.ownBlock=some b) w w':=by
 obtain ⟨i0,hi,he⟩:=Option.map_eq_some_iff.1 info_byte
 simp only [Prod.mk.injEq] at he
 obtain ⟨hz0,hz1,hz2⟩:=he
 have H:=Lib.hid h
 have hown:=own_below h.own ((Below.refl w.heap.size w).alloc (Nat.le_refl _) (.cells #[.int .u8 (n / 16777216 % 256),.int .u8 (n / 65536 % 256),.int .u8 (n / 256 % 256),.int .u8 (n % 256)] 5))
 have hB:=h.le
 clear h
 go_enter Tryz.func98,Tryz.ntmps98
 go_wp2_with (at_builtin; refine wpList_append_own _ rfl (.tmp 5) (.tmp 17) 47 rfl w0.heap.size 5 i0 (.int .u8 0) 1 1 Tryz.underlying47 hi hz0 hz1 hz2 rfl (by decide) v _ _ rfl hown ⟨w.heap.size,0,none⟩ 4 4 [.int .u8 (n / 16777216 % 256),.int .u8 (n / 65536 % 256),.int .u8 (n / 256 % 256),.int .u8 (n % 256)] rfl rfl (World.news_of_block (heap_alloc_new w _)) (by simp [Value.oneCell']) (by unfold maxLen; omega) (by omega) (by simp; omega) ?_)
 intro v' w3 hown3 hgrow _
 have HB:=Lib.hid (And.intro ((H.out.more ((Below.refl _ _).alloc (Nat.le_refl _) _)).grow hown3 hgrow (beI_cells n)) (only_grown ((Below.refl _ _).alloc (Nat.le_refl _) _) hgrow))
 clear hown hown3 hgrow
 go_wp2
 go_ret
 exact ⟨_,rfl,HB.out⟩
theorem beLow_cells (n:Int):[Value.int .u8 (n % 256)]=bytesL [lowI n]:=by
 simp [bytesL,lowI]
 omega
theorem byte_cells (n:Int) (h:0≤n∧n≤255):[Value.int .u8 n]=bytesL [lowI n]:=by
 rw [← beLow_cells,show n % 256=n from by omega]
theorem flat3_snoc (xs:List Row3) (x:Row3):(xs++[x]).flatMap enc3=xs.flatMap enc3++enc3 x:=by simp
theorem flat2_snoc (xs:List Row2) (x:Row2):(xs++[x]).flatMap enc2=xs.flatMap enc2++enc2 x:=by simp
theorem flat3_len (xs:List Row3):(xs.flatMap enc3).length=xs.length*12:=by
 induction xs with
 | nil=>rfl
 | cons x xs ih=>simp [ih,enc3,beI_len]; omega
theorem flat2_len (xs:List Row2):(xs.flatMap enc2).length=xs.length*5:=by
 induction xs with
 | nil=>rfl
 | cons x xs ih=>simp [ih,enc2,beI_len]; omega
theorem take3_snoc (l:List Row3) (k:Nat) (h:k < l.length):(l.take (k+1)).flatMap enc3=(l.take k).flatMap enc3++(beI l[k].1++beI l[k].2.1++beI l[k].2.2):=by
 rw [List.take_succ_eq_append_getElem h,flat3_snoc]; rfl
theorem take2_snoc (l:List Row2) (k:Nat) (h:k < l.length):(l.take (k+1)).flatMap enc2=(l.take k).flatMap enc2++([lowI l[k].1]++beI l[k].2):=by
 rw [List.take_succ_eq_append_getElem h,flat2_snoc]; rfl
def lay' (l:List UInt8) (r:Rc):List UInt8:=l++beI r.beg++[lowI r.txns.length]++r.txns.flatMap enc3++[lowI r.pages.length]
set_option maxRecDepth 100000 in
set_option maxHeartbeats 8000000 in
theorem appendTables_any {w0 w:World} {v vt vp:Value} {l:List UInt8} {r:Rc} (h:Buf w0 w v l) (hl:l.length≤1000) (hr:Lists w0 r vt vp) (h3:r.txns.length≤50) (h2:r.pages.length≤50) :
 Calls Tryz.prog 99 #[v,recV r vt vp] w fun e w'=>∃ v',e=.returned v'∧Buf w0 w' v' (l++encTab r):=by
 obtain ⟨i0,hi,he⟩:=Option.map_eq_some_iff.1 info_byte
 simp only [Prod.mk.injEq] at he
 obtain ⟨hz0,hz1,hz2⟩:=he
 have II:=Lib.hid (show _∧_∧_∧_ from ⟨hi,hz0,hz1,hz2⟩)
 clear hi hz0 hz1 hz2
 have H:=Lib.hid h
 have HR:=Lib.hid hr
 obtain ⟨ta,tc,hvt⟩:=hr.t.form
 obtain ⟨pa,pc,hvp⟩:=hr.p.form
 subst hvt hvp
 have B0:=Lib.hid (Blk.new w 46 (recCells r (.slice ta r.txns.length tc) (.slice pa r.pages.length pc)))
 have hb0:Below w.heap.size w (w.alloc (.cells (recCells r (.slice ta r.txns.length tc) (.slice pa r.pages.length pc)) 46)):=(Below.refl _ _).alloc (Nat.le_refl _) _
 have H1:=Lib.hid (h.more hb0)
 clear h hr
 clear hb0
 unfold recV recCells
 go_enter Tryz.func99,Tryz.ntmps99
 go_wp2_with fail
 refine (appendNumber_any H1.out (by omega) r.beg).mono ?_
 rintro e w1 ⟨v1,rfl,hb1,ho1⟩
 have bx:=H1.out.blk ho1 B0.out (by decide)
 have BX:=Lib.hid bx
 have c9:=bx.cell 9
 have c10:=bx.cell 10
 simp [recCells] at c9 c10
 have H2:=Lib.hid hb1
 have hl2:(l++beI r.beg).length≤1004:=by rw [List.length_append,beI_len]; omega
 clear bx hb1 ho1 H1 B0
 generalize hl1:l++beI r.beg=l1 at *
 obtain ⟨hi,hz0,hz1,hz2⟩:=id II.out
 have hown:=own_below H2.out.own ((Below.refl w1.heap.size w1).alloc (Nat.le_refl _) (.cells #[.int .u8 (r.txns.length:Int)] 5))
 have hle:=H2.out.le
 go_wp2_with (at_builtin; refine wpList_append_own _ rfl (.tmp 13) (.tmp 18) 47 rfl w0.heap.size 5 i0 (.int .u8 0) 1 1 Tryz.underlying47 hi hz0 hz1 hz2 rfl (by decide) v1 _ _ rfl hown ⟨w1.heap.size,0,none⟩ 1 1 [.int .u8 (r.txns.length:Int)] rfl rfl (World.news_of_block (heap_alloc_new w1 _)) (by simp [Value.oneCell']) (by unfold maxLen; omega) (by omega) (by simp; omega) ?_)
 intro v2 w2 hown2 hgrow _
 have hb1:Below w1.heap.size w1 (w1.alloc (.cells #[.int .u8 (r.txns.length:Int)] 5)):=(Below.refl _ _).alloc (Nat.le_refl _) _
 have ho2:=only_grown hb1 hgrow
 have bx:=H2.out.blk ho2 BX.out (by decide)
 have H3:=Lib.hid ((H2.out.more hb1).grow hown2 hgrow (byte_cells _ (by omega)))
 have BX2:=Lib.hid bx
 have c9:=bx.cell 9
 have c10:=bx.cell 10
 simp [recCells] at c9 c10
 have hl3:(l1++[lowI r.txns.length]).length≤1005:=by rw [List.length_append]; simp; omega
 have E1:=Lib.hid hl1
 clear hown hown2 hgrow hb1 ho2 H2 BX hl2 hl1 bx
 generalize hl2:l1++[lowI r.txns.length]=l2 at *
 have E2:=Lib.hid hl2
 clear hl2
 go_wp2_with fail
 go_loopw [0,23] (fun vb vk wr=>∃ (k:Nat) (l':List UInt8),k≤r.txns.length∧vk=.int .i64 k∧l' = l2++(r.txns.take k).flatMap enc3∧Buf w0 wr vb l'∧Blk wr w.heap.size 46 (recCells r (.slice ta r.txns.length tc) (.slice pa r.pages.length pc))) (fun _ vk _=>r.txns.length - (intOf vk).toNat)
 case atStart=>exact ⟨0,l2,Nat.zero_le _,rfl,by simp,H3.out,BX2.out⟩
 case round =>
  obtain ⟨k,l',hk,rfl,hl',hb,hx⟩:=hrel
  have HB:=Lib.hid hb
  have HX:=Lib.hid hx
  have hlen:l'.length≤1605:=by rw [hl',List.length_append,flat3_len,List.length_take]; omega
  have EL:=Lib.hid hl'
  clear hb hx hl' H3 BX2 c9 c10
  by_cases hlt:k < r.txns.length
  ·have hne:r.txns≠[]:=fun e=>by rw [e] at hlt; simp at hlt
   obtain ⟨b,off,cap,hv,hc1,hc2,hbl,hcells⟩:=HR.out.t.at3 hne
   simp only [Value.slice.injEq] at hv
   obtain ⟨rfl,_,rfl⟩:=hv
   obtain ⟨d0,d1,d2⟩:=hcells k hlt
   have hk':=fun x=>HB.out.below.cell (p:=⟨b,x,none⟩) hbl
   replace d0:=(hk' _).trans d0
   replace d1:=(hk' _).trans d1
   replace d2:=(hk' _).trans d2
   have ES:=Lib.hid (take3_snoc r.txns k hlt)
   have hnl:(r.txns.length:Int)≤50:=by omega
   generalize r.txns[k].1=x1 at *
   generalize r.txns[k].2.1=x2 at *
   generalize r.txns[k].2.2=x3 at *
   clear hcells hk' hne
   have hba:Below wr.heap.size wr (wr.alloc (.cells #[.int .i64 x1,.int .i64 x2,.int .i64 x3] 136)):=(Below.refl _ _).alloc (Nat.le_refl _) _
   have Q0:=Lib.hid (Blk.new wr 136 #[.int .i64 x1,.int .i64 x2,.int .i64 x3])
   have HB1:=Lib.hid (HB.out.more hba)
   have HX1:=Lib.hid (HX.out.keep hba HX.out.lt)
   clear hba HB HX
   go_wp2_with fail
   generalize wr.alloc (.cells #[.int .i64 x1,.int .i64 x2,.int .i64 x3] 136)=w3 at *
   generalize wr.heap.size=y at *
   clear d0 d1 d2
   refine (appendNumber_any HB1.out (by omega) x1).mono ?_
   rintro e w4 ⟨v4,rfl,hb4,ho4⟩
   have HB2:=Lib.hid hb4
   have HX2:=Lib.hid (HB1.out.blk ho4 HX1.out (by decide))
   have q:=HB1.out.blk ho4 Q0.out (by decide)
   have d1:=q.cell 1
   simp at d1
   have Q1:=Lib.hid q
   have hlen4:(l'++beI x1).length≤1609:=by rw [List.length_append,beI_len]; omega
   clear hb4 ho4 q HB1 HX1 Q0
   go_wp2_with fail
   refine (appendNumber_any HB2.out (by omega) x2).mono ?_
   rintro e w5 ⟨v5,rfl,hb5,ho5⟩
   have HB3:=Lib.hid hb5
   have HX3:=Lib.hid (HB2.out.blk ho5 HX2.out (by decide))
   have q:=HB2.out.blk ho5 Q1.out (by decide)
   have d2:=q.cell 2
   simp at d2
   have hlen5:(l'++beI x1++beI x2).length≤1613:=by rw [List.length_append,beI_len]; omega
   clear hb5 ho5 q HB2 HX2 Q1 d1
   go_wp2_with fail
   refine (appendNumber_any HB3.out (by omega) x3).mono ?_
   rintro e w6 ⟨v6,rfl,hb6,ho6⟩
   have HB4:=Lib.hid hb6
   have HX4:=Lib.hid (HB3.out.blk ho6 HX3.out (by decide))
   clear hb6 ho6 HB3 HX3 d2
   go_wp2_with fail
   go_roundw
   case rel=>exact ⟨k+1,_,by omega,by go_num,by rw [EL.out,ES.out]; simp only [List.append_assoc],HB4.out,HX4.out⟩
   case measure=>simp [intOf]; omega
  ·obtain rfl:k=r.txns.length:=by omega
   rw [List.take_length] at EL
   have c10:=HX.out.cell 10
   simp [recCells] at c10
   have hown:=own_below HB.out.own ((Below.refl wr.heap.size wr).alloc (Nat.le_refl _) (.cells #[.int .u8 (r.pages.length:Int)] 5))
   have hle:=HB.out.le
   generalize u0=ub at *
   go_wp2_with (at_builtin; refine wpList_append_own _ rfl (.tmp 40) (.tmp 45) 47 rfl w0.heap.size 5 i0 (.int .u8 0) 1 1 Tryz.underlying47 hi hz0 hz1 hz2 rfl (by decide) ub _ _ rfl hown ⟨wr.heap.size,0,none⟩ 1 1 [.int .u8 (r.pages.length:Int)] rfl rfl (World.news_of_block (heap_alloc_new wr _)) (by simp [Value.oneCell']) (by unfold maxLen; omega) (by omega) (by simp; omega) ?_)
   intro v3 w3 hown3 hgrow _
   have hb1:Below wr.heap.size wr (wr.alloc (.cells #[.int .u8 (r.pages.length:Int)] 5)):=(Below.refl _ _).alloc (Nat.le_refl _) _
   have bx:=HB.out.blk (only_grown hb1 hgrow) HX.out (by decide)
   have H4:=Lib.hid ((HB.out.more hb1).grow hown3 hgrow (byte_cells _ (by omega)))
   have BX3:=Lib.hid bx
   have c10:=bx.cell 10
   simp [recCells] at c10
   have hl4:(l'++[lowI r.pages.length]).length≤1606:=by rw [List.length_append]; simp; omega
   clear hown hown3 hgrow hb1 bx HB HX
   generalize hl5:l'++[lowI r.pages.length]=l5 at *
   have E5:=Lib.hid hl5
   clear hl5
   go_wp2_with fail
   have EL2:Hid (lay' l r=l5):=by
    show lay' l r=l5
    rw [← E5.out,EL.out,← E2.out,← E1.out]
    simp [lay']
   clear EL E5 E2 E1 c9 c10
   go_loopw [0,50] (fun vb vk wr=>∃ (k:Nat) (l':List UInt8),k≤r.pages.length∧vk=.int .i64 k∧l' = l5++(r.pages.take k).flatMap enc2∧Buf w0 wr vb l') (fun _ vk _=>r.pages.length - (intOf vk).toNat)
   case atStart=>exact ⟨0,l5,Nat.zero_le _,rfl,by simp,H4.out⟩
   case round =>
    obtain ⟨k,l6,hk,rfl,hl',hb⟩:=hrel
    have HB:=Lib.hid hb
    have hlen6:l6.length≤1856:=by rw [hl',List.length_append,flat2_len,List.length_take]; omega
    have EL:=Lib.hid hl'
    clear hb hl' H4 BX3
    by_cases hlt:k < r.pages.length
    ·have hne:r.pages≠[]:=fun e=>by rw [e] at hlt; simp at hlt
     obtain ⟨b,off,cap,hv,hc1,hc2,hbl,hcells⟩:=HR.out.p.at2 hne
     simp only [Value.slice.injEq] at hv
     obtain ⟨rfl,_,rfl⟩:=hv
     obtain ⟨d0,d1⟩:=hcells k hlt
     have hk':=fun x=>HB.out.below.cell (p:=⟨b,x,none⟩) hbl
     replace d0:=(hk' _).trans d0
     replace d1:=(hk' _).trans d1
     have ES:=Lib.hid (take2_snoc r.pages k hlt)
     have hnl:(r.pages.length:Int)≤50:=by omega
     generalize r.pages[k].1=x1 at *
     generalize r.pages[k].2=x2 at *
     clear hcells hk' hne
     have hba:Below wr.heap.size wr (wr.alloc (.cells #[.int .i64 x1,.int .i64 x2] 138)):=(Below.refl _ _).alloc (Nat.le_refl _) _
     have Q0:=Lib.hid (Blk.new wr 138 #[.int .i64 x1,.int .i64 x2])
     have HB1:=Lib.hid (HB.out.more hba)
     clear hba HB
     have hown:=own_below HB1.out.own ((Below.refl _ _).alloc (Nat.le_refl _) (.cells #[.int .u8 (x1 % 256)] 5))
     have hle:=HB1.out.le
     have hnb:((wr.alloc (.cells #[.int .i64 x1,.int .i64 x2] 138)).alloc (.cells #[.int .u8 (x1 % 256)] 5)).heap[wr.heap.size+1]? = some (.cells #[.int .u8 (x1 % 256)] 5 (0,0)):=by
      have:=heap_alloc_new (wr.alloc (.cells #[.int .i64 x1,.int .i64 x2] 138)) (.cells #[.int .u8 (x1 % 256)] 5)
      rwa [World.size_alloc] at this
     have HNB:=Lib.hid hnb
     clear hnb
     generalize u0=ub at *
     go_wp2_with (at_builtin; refine wpList_append_own _ rfl (.tmp 54) (.tmp 58) 47 rfl w0.heap.size 5 i0 (.int .u8 0) 1 1 Tryz.underlying47 hi hz0 hz1 hz2 rfl (by decide) ub _ _ rfl hown ⟨wr.heap.size+1,0,none⟩ 1 1 [.int .u8 (x1 % 256)] rfl rfl (World.news_of_block HNB.out) (by simp [Value.oneCell']) (by unfold maxLen; omega) (by omega) (by simp at hle ⊢; omega) ?_)
     intro v7 w7 hown7 hgrow _
     have hb1:=(Below.refl (wr.alloc (.cells #[.int .i64 x1,.int .i64 x2] 138)).heap.size (wr.alloc (.cells #[.int .i64 x1,.int .i64 x2] 138))).alloc (Nat.le_refl _) (.cells #[.int .u8 (x1 % 256)] 5)
     have q:=HB1.out.blk (only_grown hb1 hgrow) Q0.out (by decide)
     have HB2:=Lib.hid ((HB1.out.more hb1).grow hown7 hgrow (beLow_cells _))
     have d3:=q.cell 1
     simp at d3
     have hlen7:(l6++[lowI x1]).length≤1857:=by rw [List.length_append]; simp; omega
     clear hown7 hgrow hb1 q hown HB1 Q0 HNB d0 d1
     go_wp2_with fail
     refine (appendNumber_any HB2.out (by omega) x2).mono ?_
     rintro e w8 ⟨v8,rfl,hb8,ho8⟩
     have HB3:=Lib.hid hb8
     clear hb8 ho8 HB2 d3
     go_wp2_with fail
     go_roundw
     case rel=>exact ⟨k+1,_,by omega,by go_num,by rw [EL.out,ES.out]; simp only [List.append_assoc],HB3.out⟩
     case measure=>simp [intOf]; omega
    ·obtain rfl:k=r.pages.length:=by omega
     rw [List.take_length] at EL
     have EF:Hid (l++encTab r=l6):=by
      show l++encTab r=l6
      rw [EL.out,← EL2.out]
      simp [lay',encTab]
     clear EL EL2
     go_wp2
     go_ret
     exact ⟨_,rfl,by rw [EF.out]; exact HB.out⟩
end Go.Proofs.YthkbcfhjmnpggaaGreat

namespace Go.Proofs.YthkbcfhjmnpggaaGreat
open Go.RowKit
theorem lay_long {r:Rc} (h:May r):(r.kind=1∧((lay r).length:Int)=12+2*r.after.size)∨(r.kind=2∧((lay r).length:Int)=16+r.after.size)∨(r.kind=3∧((lay r).length:Int)=9) ∨
 (r.kind=4∧((lay r).length:Int)=9)∨(r.kind=5∧((lay r).length:Int)=1)∨(r.kind=6∧((lay r).length:Int)=7+12*r.txns.length+5*r.pages.length):=by
 cases h with
 | @upd t p pg o b a ht hn hp hs hb =>
   refine .inl ⟨rfl,?_⟩
   have e:(lay (.upd t p pg o b a)).length=12+b.data.toList.length+a.data.toList.length:=by
    simp only [lay,Rc.upd,List.length_append]
    simp [beI_len]
    omega
   have s1:b.data.toList.length=b.size:=rfl
   have s2:a.data.toList.length=a.size:=rfl
   rw [e,s1,s2]
   show ((12+b.size+a.size:Nat):Int)=12+2*(a.size:Int)
   omega
 | @und t p n pg o a ht hn hp hx hs =>
   refine .inr (.inl ⟨rfl,?_⟩)
   have e:(lay (.und t p n pg o a)).length=16+a.data.toList.length:=by
    simp only [lay,Rc.und,List.length_append]
    simp [beI_len]
    omega
   have s2:a.data.toList.length=a.size:=rfl
   rw [e,s2]
   show ((16+a.size:Nat):Int)=16+(a.size:Int)
   omega
 | @com k t p hk ht hn hp =>
   have e:(lay (.com k t p)).length=9:=by
    rcases hk with rfl | rfl <;> simp [lay,Rc.com,beI_len]
   rcases hk with rfl | rfl
   · exact .inr (.inr (.inl ⟨rfl,by rw [e]; rfl⟩))
   · exact .inr (.inr (.inr (.inl ⟨rfl,by rw [e]; rfl⟩)))
 | beg=>exact .inr (.inr (.inr (.inr (.inl ⟨rfl,by decide⟩))))
 | @tab b ts ps hb ht hp h3 h2 =>
   refine .inr (.inr (.inr (.inr (.inr ⟨rfl,?_⟩))))
   have e:(lay (.tab b ts ps)).length=7+12*ts.length+5*ps.length:=by
    have e2:(lay (.tab b ts ps)) = [lowI 6]++encTab (.tab b ts ps):=by simp [lay,Rc.tab]
    rw [e2,List.length_append]
    simp only [encTab,List.length_append,beI_len,List.length_cons,List.length_nil,Rc.tab,flat3_len,flat2_len]
    omega
   rw [e]
   show ((7+12*ts.length+5*ps.length:Nat):Int)=7+12*(ts.length:Int)+5*(ps.length:Int)
   omega
end Go.Proofs.YthkbcfhjmnpggaaGreat
