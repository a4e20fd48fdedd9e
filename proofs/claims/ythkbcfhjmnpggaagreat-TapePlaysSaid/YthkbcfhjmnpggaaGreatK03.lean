/- Texts that belong together, joined: RegionF, RecA, RecB. -/
import Derived.Test.YthkbcfhjmnpggaaGreatK02
import Derived.Test.YthkbcfhjmnpggaaGreatK01
import Derived.StillTailTactics
import Derived.Laws.Panics
import Derived.Lib.ConvBytes
namespace Go.Proofs.YthkbcfhjmnpggaaGreat
open Go.RowKit
def sinkF (free:List Nat) (D:List (List Nat)) (t:Nat):Bool:=(List.range t).all fun i=>free.any (Nat.beq i) || ((D.take (t+1)).drop (i+1)).any fun d=>d.any (Nat.beq i)
def tailF (free:List Nat) (ops:Array Oper) (n:Nat):Bool:=(List.range ops.size).all fun t=>Nat.blt t n || sinkF free (ops.toList.map depsOf) t
theorem sink_listedF {free:List Nat} {ops:Array Oper} {listed:Array Bool} (hc:Closed ops listed) {t:Nat} (hs:sinkF free (ops.toList.map depsOf) t=true) (hf:∀ f ∈ free,listed.getD f false=true) (hd:∀ j,Region.waitsFor .any ops t j=true→listed.getD j false=true) :
 ∀ d i,t - i=d→i < t→listed.getD i false=true:=by
 intro d
 induction d using Nat.strongRecOn with
 | _ d ih =>
   intro i hid hit
   have h1:=List.all_eq_true.1 hs i (List.mem_range.2 hit)
   simp only [Bool.or_eq_true] at h1
   rcases h1 with h1 | h1
   ·obtain ⟨q,hq,hqi⟩:=List.any_eq_true.1 h1
    have hqe:i=q:=Nat.eq_of_beq_eq_true hqi
    subst hqe
    exact hf i hq
   obtain ⟨dj,hdj,hany⟩:=List.any_eq_true.1 h1
   obtain ⟨q,hq,hqi⟩:=List.any_eq_true.1 hany
   have hqe:i=q:=Nat.eq_of_beq_eq_true hqi
   subst hqe
   obtain ⟨k,hk⟩:=List.mem_iff_getElem?.1 hdj
   rw [List.getElem?_drop,List.getElem?_take] at hk
   split at hk
   ·rename_i hlt
    rw [List.getElem?_map] at hk
    obtain ⟨o,ho,rfl⟩:=Option.map_eq_some_iff.1 hk
    have hw:Region.waitsFor .any ops (i+1+k) i=true:=waits_deps.2 ⟨o,by simpa using ho,hq⟩
    by_cases he:i+1+k=t
    · rw [he] at hw; exact hd i hw
    · exact hc _ _ (ih (t - (i+1+k)) (by omega) (i+1+k) rfl (by omega)) hw
   · cases hk
def waitB (D:List (List Nat)) (f j:Nat):Bool:=(D.getD j []).any (Nat.beq f)
def selB (o:Oper):Bool:=match o.op with | .select _ _=>false | _=>true
def srcB (x:Operand) (e:Nat) (b:Bool):Bool:=match x with | .tmp s=>!(Nat.beq e s) || b | _=>true
def dstB (x:Operand) (d:Nat) (b:Bool):Option Tmp→Bool
 | some e=>!(Nat.beq e d) && srcB x e b
 | none=>true
def moveOf (o:Oper):Option (Tmp × Operand):=match o.dst,o.op,o.guard with | some d,.move x,none=>some (d,x) | _,_,_=>none
theorem moveOf_some {o:Oper} {d:Tmp} {x:Operand} (h:moveOf o=some (d,x)):o.dst=some d∧o.op=.move x∧o.guard=none:=by
 unfold moveOf at h
 split at h
 ·rename_i d' x' h1 h2 h3
  simp only [Option.some.injEq,Prod.mk.injEq] at h
  obtain ⟨rfl,rfl⟩:=h
  exact ⟨h1,h2,h3⟩
 · cases h
def freeAt (ops:Array Oper) (D:List (List Nat)) (f:Nat):Bool :=
 match (ops[f]?).bind moveOf with
 | some (d,x)=>(D.getD f []).isEmpty && (List.range ops.size).all fun j=>Nat.beq j f || match ops[j]? with
    | some o=>selB o && dstB x d (waitB D f j) o.dst && ((o.looksAt ops).all fun t=>!(Nat.beq t d) || waitB D f j)
    | none=>true
 | none=>false
structure Free (ops:Array Oper) (f:Nat) (d:Tmp) (x:Operand):Prop where
 at_:∃ o,ops[f]? = some o∧o.dst=some d∧o.op=.move x∧o.guard=none
 none:∀ j,¬ Region.waitsFor .any ops f j=true
 sel:∀ j o,j≠f→ops[j]? = some o→∀ cs b,o.op≠.select cs b
 dst:∀ j o,j≠f→ops[j]? = some o→o.dst≠some d
 src:∀ j o s,j≠f→ops[j]? = some o→x=.tmp s→o.dst=some s→Region.waitsFor .any ops j f=true
 look:∀ j o,j≠f→ops[j]? = some o→d ∈ o.looksAt ops→Region.waitsFor .any ops j f=true
theorem waitB_waits {ops:Array Oper} {f j:Nat} (h:waitB (ops.toList.map depsOf) f j=true):Region.waitsFor .any ops j f=true:=by
 unfold waitB at h
 obtain ⟨q,hq,hb⟩:=List.any_eq_true.1 h
 have:f=q:=Nat.eq_of_beq_eq_true hb
 subst this
 rw [List.getD_eq_getElem?_getD,List.getElem?_map] at hq
 cases ho:ops.toList[j]? with
 | none=>rw [ho] at hq; simp at hq
 | some o =>
   rw [ho] at hq
   exact waits_deps.2 ⟨o,by simpa using ho,by simpa using hq⟩
theorem free_of {ops:Array Oper} {f:Nat} (h:freeAt ops (ops.toList.map depsOf) f=true):∃ d x,Free ops f d x:=by
 unfold freeAt at h
 split at h
 ·rename_i d x hm
  obtain ⟨of,hof,hmo⟩:=Option.bind_eq_some_iff.1 hm
  obtain ⟨hd0,hx0,hg0⟩:=moveOf_some hmo
  simp only [Bool.and_eq_true] at h
  obtain ⟨h1,h2⟩:=h
  have key:∀ j o,j≠f→ops[j]? = some o→selB o=true∧dstB x d (waitB (ops.toList.map depsOf) f j) o.dst=true∧((o.looksAt ops).all fun t=>!(Nat.beq t d) || waitB (ops.toList.map depsOf) f j)=true:=by
   intro j o hj hoj
   have h3:=List.all_eq_true.1 h2 j (List.mem_range.2 (lt_of_at hoj))
   simp only [Bool.or_eq_true] at h3
   rcases h3 with h3 | h3
   · exact absurd (Nat.eq_of_beq_eq_true h3) hj
   ·rw [hoj] at h3
    simp only [Bool.and_eq_true] at h3
    exact ⟨h3.1.1,h3.1.2,h3.2⟩
  refine ⟨d,x,⟨_,hof,hd0,hx0,hg0⟩,fun j hj=>?_,fun j o hj ho cs b hs=>?_,fun j o hj ho hd=>?_,fun j o s hj ho hx hd=>?_,fun j o hj ho hl=>?_⟩
  ·obtain ⟨o,ho',hm⟩:=waits_deps.1 hj
   rw [List.getD_eq_getElem?_getD,deps_at ho'] at h1
   have:depsOf o = []:=by simpa using h1
   rw [this] at hm
   cases hm
  ·have:=(key j o hj ho).1
   unfold selB at this
   rw [hs] at this
   cases this
  ·have:=(key j o hj ho).2.1
   rw [hd] at this
   unfold dstB at this
   simp at this
  ·have:=(key j o hj ho).2.1
   rw [hd,hx] at this
   unfold dstB srcB at this
   simp only [Bool.and_eq_true,Bool.or_eq_true] at this
   rcases this.2 with h4 | h4
   · simp at h4
   · exact waitB_waits h4
  ·have:=List.all_eq_true.1 (key j o hj ho).2.2 d hl
   simp only [Bool.or_eq_true] at this
   rcases this with h4 | h4
   · simp at h4
   · exact waitB_waits h4
 · cases h
theorem put_comm {a:Act} {d e:Option Tmp} {x y:Value} (h:∀ t,d=some t→e≠some t):(a.put d x).put e y=(a.put e y).put d x:=by
 refine act_ext (by rw [put_defers,put_defers,put_defers,put_defers]) fun t=>?_
 rw [put_slot,put_slot,put_slot,put_slot,put_size,put_size]
 by_cases h1:d=some t
 ·rw [if_neg (h t h1),if_pos h1]
  simp [h1]
 ·by_cases h2:e=some t
  · rw [if_pos h2,if_neg h1,if_pos h2]
  · rw [if_neg h2,if_neg h1,if_neg h1,if_neg h2]
theorem eval_put {a:Act} {d:Option Tmp} {v:Value} {x:Operand} (h:∀ s,x=.tmp s→d≠some s):(a.put d v).eval x=a.eval x:=by
 cases x with
 | tmp s=>simp only [Act.eval,Array.getD_eq_getD_getElem?,put_slot,if_neg (h s rfl)]
 | _=>rfl
section
variable {P:Program} {ops:Array Oper} {Q:Exit→Act→World→Prop}
theorem upon_sim (hQ:∀ c a d v w,Q (.panic c) (Act.put a (some d) v) w→Q (.panic c) a w) {o:Oper} {a:Act} {d:Tmp} {v:Value} {K K':Act→World→Prop}
 (hK:∀ (b:Act) (y:Value) w,(b.tmps=a.tmps)→K' ((b.put (some d) v).put o.dst y) w→K (b.put o.dst y) w) {r:Result Next} (h:o.upon P (a.put (some d) v) K' Q r):o.upon P a K Q r:=by
 cases r with
 | ok n w' =>
   cases n <;> simp only [Oper.upon] at h ⊢
   case value y=>exact hK a y w' rfl h
   case skip=>exact hK a undef w' rfl h
   case defer q =>
    refine hK { a with defers:=q::a.defers } undef w' rfl ?_
    have e:({ a with defers:=q::a.defers }:Act).put (some d) v = { a.put (some d) v with defers:=q::(a.put (some d) v).defers }:=rfl
    rw [e]
    exact h
   case enter f args =>
    refine h.mono fun e w'' he=>?_
    cases e with
    | returned y=>exact hK a y w'' rfl he
    | panicked c=>exact hQ _ _ _ _ _ he
    | outgrown=>exact he
   case row row args=>exact Rows.mono h fun y w'' he=>hK a y w'' rfl he
 | halt x w'=>cases x <;> simp only [Oper.upon] at h ⊢ <;> first | exact hQ _ _ _ _ _ h | exact (h:False).elim
theorem set_comm (l:Array Bool) (i j:Nat):(l.setIfInBounds i true).setIfInBounds j true=(l.setIfInBounds j true).setIfInBounds i true:=by
 by_cases h:i=j
 · rw [h]
 ·apply Array.ext_getElem?
  intro t
  simp only [Array.getElem?_setIfInBounds,Array.size_setIfInBounds]
  by_cases h1:i=t
  ·by_cases h2:j=t
   · omega
   · simp [h1,h2]
  · simp [h1]
theorem pull (hQ:∀ c a d v w,Q (.panic c) (Act.put a (some d) v) w→Q (.panic c) a w) {f:Nat} {d:Tmp} {x:Operand} (hf:Free ops f d x):∀ (fuel:Nat) (listed:Array Bool) (a:Act) (w:World),
 listed.size=ops.size→listed.getD f true=false→wpAny P .any ops Q fuel (listed.setIfInBounds f true) (a.put (some d) (a.eval x)) w→wpAny P .any ops Q (fuel+1) listed a w:=by
 intro fuel
 induction fuel with
 | zero =>
   intro listed a w hs hl h
   obtain ⟨o,ho,hd,hop,hg⟩:=hf.at_
   refine ⟨fun hr=>?_,fun i hi=>?_⟩
   ·have:f ∈ Region.ready .any ops listed:=mem_ready.2 ⟨hl,o,ho,fun e he hb=>absurd (waits_iff.2 ⟨o,ho,e,he,hb,rfl⟩) (hf.none e.on)⟩
    rw [hr] at this; cases this
   ·by_cases hif:i=f
    ·subst hif
     unfold wpOp
     rw [ho]
     simp only
     rw [if_pos (by simp [Region.wanted,hg])]
     refine .inl ?_
     unfold Oper.wp execOp
     simp only [hop,Sem.run_pure]
     rw [Oper.upon_value,hd]
     exact h
    ·have:i ∈ Region.ready .any ops (listed.setIfInBounds f true):=by
      obtain ⟨h1,o',ho',hall⟩:=mem_ready.1 hi
      exact mem_ready.2 ⟨by rw [getD_set_ne true (Ne.symm hif)]; exact h1,o',ho',fun e he hb=>getD_set_true (hall e he hb)⟩
     rw [h.1] at this; cases this
 | succ fuel ih =>
   intro listed a w hs hl h
   obtain ⟨o,ho,hd,hop,hg⟩:=hf.at_
   refine ⟨fun hr=>?_,fun i hi=>?_⟩
   ·have:f ∈ Region.ready .any ops listed:=mem_ready.2 ⟨hl,o,ho,fun e he hb=>absurd (waits_iff.2 ⟨o,ho,e,he,hb,rfl⟩) (hf.none e.on)⟩
    rw [hr] at this; cases this
   ·by_cases hif:i=f
    ·subst hif
     unfold wpOp
     rw [ho]
     simp only
     rw [if_pos (by simp [Region.wanted,hg])]
     refine .inl ?_
     unfold Oper.wp execOp
     simp only [hop,Sem.run_pure]
     rw [Oper.upon_value,hd]
     exact h
    ·obtain ⟨h1,o',ho',hall⟩:=mem_ready.1 hi
     have hi':i ∈ Region.ready .any ops (listed.setIfInBounds f true) :=
      mem_ready.2 ⟨by rw [getD_set_ne true (Ne.symm hif)]; exact h1,o',ho',fun e he hb=>getD_set_true (hall e he hb)⟩
     have h2:=h.2 i hi'
     have hnw:¬ Region.waitsFor .any ops i f=true:=fun hw=>by
      obtain ⟨o2,ho2,e,he,hb,hon⟩:=waits_iff.1 hw
      have:o2=o':=Option.some.inj (ho2.symm.trans ho')
      subst this
      have:=hall e he hb
      rw [hon,← getD_iff (by rw [hs]; exact lt_of_at ho),hl] at this
      cases this
     have hnl:d ∉ o'.looksAt ops:=fun hm=>hnw (hf.look i o' hif ho' hm)
     have hnd:=hf.dst i o' hif ho'
     have hns:∀ s,x=.tmp s→o'.dst≠some s:=fun s hx hds=>hnw (hf.src i o' s hif ho' hx hds)
     have hK:∀ (b:Act) (y:Value) w,(b.tmps=a.tmps)→wpAny P .any ops Q fuel ((listed.setIfInBounds f true).setIfInBounds i true) ((b.put (some d) (a.eval x)).put o'.dst y) w→wpAny P .any ops Q (fuel+1) (listed.setIfInBounds i true) (b.put o'.dst y) w:=by
      intro b y w hb hw
      refine ih _ _ _ (by simp [hs]) (by rw [getD_set_ne true hif]; exact hl) ?_
      have hbe:b.eval x=a.eval x:=by cases x <;> simp [Act.eval,hb]
      rw [eval_put hns,hbe,← put_comm (d:=some d) (e:=o'.dst) (fun t ht he=>hnd (by rw [he,ht])),← set_comm]
      exact hw
     have heval:∀ z ∈ o'.op.operands,a.eval z=(a.put (some d) (a.eval x)).eval z:=fun z hz=>by
      rw [eval_put]
      intro s hs he
      simp only [Option.some.injEq] at he
      subst he
      subst hs
      exact hnl (List.mem_append_left _ (List.mem_filterMap.2 ⟨.tmp d,by simpa using hz,rfl⟩))
     have hexec:=execOp_congr o' (hf.sel i o' hif ho') heval
     have hwant:Region.wanted o' (yielded ops a.tmps)=Region.wanted o' (yielded ops (a.put (some d) (a.eval x)).tmps) :=
      wanted_congr fun t ht=>by rw [put_slot,if_neg (fun e=>hnl (by simp only [Option.some.injEq] at e; rw [e]; exact ht))]
     unfold wpOp at h2 ⊢
     rw [ho'] at h2 ⊢
     simp only at h2 ⊢
     rw [hwant]
     split
     ·rename_i hwt
      rw [if_pos hwt] at h2
      rcases h2 with h2 | ⟨h2,h3⟩
      ·refine .inl ?_
       unfold Oper.wp at h2 ⊢
       rw [hexec]
       exact upon_sim hQ hK h2
      ·refine .inr ⟨?_,h3⟩
       unfold Oper.asks at h2 ⊢
       rw [hexec]
       exact h2
     ·rename_i hwt
      rw [if_neg hwt] at h2
      exact hK a undef w rfl h2
end
section
variable {P:Program} {ops:Array Oper} {n:Nat} {vs:List Yield} {w0:World} {a0:Act} {Q:Exit→Act→World→Prop} {free:List Nat}
theorem ok_tailF (h:tailF free ops n=true) {listed:Array Bool} (hf:∀ f ∈ free,listed.getD f false=true) (hc:Closed ops listed) {t i:Nat} (hn:n≤t) (ht:t < ops.size) (hi:i < t)
 (hd:∀ j,Region.waitsFor .any ops t j=true→listed.getD j false=true):listed.getD i false=true:=by
 have h1:=List.all_eq_true.1 h t (List.mem_range.2 ht)
 simp only [Bool.or_eq_true] at h1
 rcases h1 with h1 | h1
 · rw [Nat.blt_eq] at h1; omega
 · exact sink_listedF hc h1 hf hd _ i rfl hi
theorem conf_tailF (hok:regionOk ops n=true) (htl:tailF free ops n=true) (hfn:∀ f ∈ free,f < n):∀ (d k:Nat),k+d=ops.size→n≤k→∀ (listed:Array Bool) (a:Act) (w:World) (fuel:Nat),
 listed.size=ops.size→(∀ i,i < k→listed.getD i false=true)→(∀ i,k≤i→listed.getD i false=false)→cnt listed ops.size≤fuel →
 wpList P ops Q (ops.toList.drop k) a w→wpAny P .any ops Q fuel listed a w:=by
 intro d
 induction d with
 | zero =>
   intro k hk hn listed a w fuel hs h1 h2 _ hw
   rw [List.drop_of_length_le (by simp; omega)] at hw
   have hr:Region.ready .any ops listed = []:=by
    cases hc:Region.ready .any ops listed with
    | nil=>rfl
    | cons x xs =>
      have hx:x ∈ Region.ready .any ops listed:=by rw [hc]; simp
      obtain ⟨hf,o,ho,_⟩:=mem_ready.1 hx
      have:=lt_of_at ho
      rw [getD_iff (by omega),h1 x (by omega)] at hf
      cases hf
   cases fuel with
   | zero=>exact ⟨hr,hw⟩
   | succ f=>exact ⟨fun _=>hw,fun i hi=>by rw [hr] at hi; cases hi⟩
 | succ d ih =>
   intro k hk hn listed a w fuel hs h1 h2 hc hw
   have hkl:k < ops.size:=by omega
   have hkf:listed.getD k true=false:=by rw [getD_iff (by omega)]; exact h2 k (Nat.le_refl _)
   have hclosed:Closed ops listed:=fun i j hi hwt=>by
    have:i < k:=by
     rcases Nat.lt_or_ge i k with h | h
     · exact h
     · rw [h2 i h] at hi; cases hi
    exact h1 j (by have:=ok_back hok hwt; omega)
   have hko:ops[k]? = some ops[k]:=Array.getElem?_eq_getElem hkl
   have hkr:k ∈ Region.ready .any ops listed:=mem_ready.2 ⟨hkf,ops[k],hko,fun e he hb=>h1 e.on (ok_back hok (waits_iff.2 ⟨_,hko,e,he,hb,rfl⟩))⟩
   have hp:=cnt_pos hkf hkl
   cases fuel with
   | zero=>omega
   | succ f =>
     refine ⟨fun h=>(by rw [h] at hkr; cases hkr),fun i hi=>?_⟩
     obtain ⟨hf,o,ho,hall⟩:=mem_ready.1 hi
     have hik:i=k:=by
      have hil:=lt_of_at ho
      rcases Nat.lt_trichotomy i k with h | h | h
      · rw [getD_iff (by omega),h1 i h] at hf; cases hf
      · exact h
      ·have:=ok_tailF htl (fun f hf=>h1 f (by have:=hfn f hf; omega)) hclosed (t:=i) (i:=k) (by omega) hil h (fun j hj=>by
        obtain ⟨o',ho',e,he,hb,rfl⟩:=waits_iff.1 hj
        have:o' = o:=Option.some.inj (ho'.symm.trans ho)
        subst this
        exact hall e he hb)
       rw [h2 k (Nat.le_refl _)] at this
       cases this
     subst hik
     have hnext:∀ a' w',wpList P ops Q (ops.toList.drop (i+1)) a' w'→wpAny P .any ops Q f (listed.setIfInBounds i true) a' w':=fun a' w' h' =>
      ih (i+1) (by omega) (by omega) _ a' w' f (by simp [hs]) (fun j hj=>by
       by_cases hji:i=j
       · subst hji; simp [show i < listed.size by omega]
       · rw [getD_set_ne false hji]; exact h1 j (by omega)) (fun j hj=>by rw [getD_set_ne false (by omega)]; exact h2 j (by omega)) (by have:=cnt_set hkf hkl; omega) h'
     rw [List.drop_eq_getElem_cons (by simpa using hkl)] at hw
     unfold wpOp
     rw [hko]
     simp only
     have hoe:ops.toList[i]'(by simpa using hkl)=ops[i]:=by simp
     rw [hoe] at hw
     unfold wpList at hw
     split
     ·rename_i hwt
      rw [if_pos hwt] at hw
      exact hw.imp (Oper.wp_mono hnext) id
     ·rename_i hwt
      rw [if_neg hwt] at hw
      exact hnext _ _ hw
theorem conf_headF (hok:regionOk ops n=true) (htl:tailF free ops n=true) (hfn:∀ f ∈ free,f < n) (hn:n≤ops.size) (hlen:vs.length=n) (hO:Obs P ops w0 Q 0 ops.toList vs a0 []) :
 ∀ (fuel:Nat) (listed:Array Bool) (a:Act) (w:World) (v:Nat→Value),Head ops n vs w0 a0 v listed a w→(∀ f ∈ free,listed.getD f false=true)→cnt listed ops.size≤fuel→wpAny P .any ops Q fuel listed a w:=by
 intro fuel
 induction fuel with
 | zero =>
   intro listed a w v H hfl hc
   have hall:∀ i,i < ops.size→listed.getD i false=true:=fun i hi=>by
    cases h:listed.getD i false with
    | true=>rfl
    | false =>
      have:=cnt_pos (listed:=listed) (i:=i) (by rw [getD_iff (by rw [H.size]; exact hi)]; exact h) hi
      omega
   have hnn:n=ops.size:=by
    rcases Nat.lt_or_ge n ops.size with h | h
    · have h1:=H.tail n (Nat.le_refl _); rw [hall n h] at h1; cases h1
    · omega
   have hF:=obs_at hO (by omega) H.fits n (by omega)
   rw [← hlen,List.drop_length,hlen] at hF
   unfold Obs at hF
   have hfin:=hF w H.below (fun e he=>by
    obtain ⟨h1,h2,h3⟩:=known_mem v he
    rw [h3]
    exact H.facts _ _ h2 (hall _ (by omega)))
   rw [← head_pre H (fun i hi=>hall i (by omega))] at hfin
   exact conf_tailF hok htl hfn 0 n (by omega) (Nat.le_refl _) listed a w 0 H.size (fun i hi=>hall i (by omega)) (fun i hi=>H.tail i hi) hc hfin
 | succ fuel ih =>
   intro listed a w v H hfl hc
   by_cases hall:∀ i,i < n→listed.getD i false=true
   ·have hF:=obs_at hO (by omega) H.fits n (by omega)
    rw [← hlen,List.drop_length,hlen] at hF
    unfold Obs at hF
    have hfin:=hF w H.below (fun e he=>by
     obtain ⟨h1,h2,h3⟩:=known_mem v he
     rw [h3]
     exact H.facts _ _ h2 (hall _ h1))
    rw [← head_pre H hall] at hfin
    exact conf_tailF hok htl hfn (ops.size - n) n (by omega) (Nat.le_refl _) listed a w _ H.size hall (fun i hi=>H.tail i hi) hc hfin
   ·-- the least one that is not listed may come up
    have hex:∃ i,i < n∧listed.getD i false=false∧∀ j,j < i→listed.getD j false=true:=by
     have:∃ i,i < n∧listed.getD i false=false:=Classical.byContradiction fun hno=>hall fun i hi=>by
      cases h:listed.getD i false with
      | true=>rfl
      | false=>exact absurd ⟨i,hi,h⟩ hno
     obtain ⟨i,hi⟩:=this
     induction i using Nat.strongRecOn with
     | _ i ihn =>
       by_cases hj:∃ j,j < i∧listed.getD j false=false
       ·obtain ⟨j,hji,hjf⟩:=hj
        exact ihn j hji ⟨by omega,hjf⟩
       ·refine ⟨i,hi.1,hi.2,fun j hji=>?_⟩
        cases h:listed.getD j false with
        | true=>rfl
        | false=>exact absurd ⟨j,hji,h⟩ hj
    obtain ⟨l,hln,hlf,hlb⟩:=hex
    have hls:l < ops.size:=by omega
    have hlr:l ∈ Region.ready .any ops listed:=mem_ready.2 ⟨by rw [getD_iff (by rw [H.size]; exact hls)]; exact hlf,ops[l],Array.getElem?_eq_getElem hls,fun e he hb=>hlb e.on (ok_back hok (waits_iff.2 ⟨_,Array.getElem?_eq_getElem hls,e,he,hb,rfl⟩))⟩
    refine ⟨fun h=>(by rw [h] at hlr; cases hlr),fun i hi=>?_⟩
    obtain ⟨hf,o,ho,hdeps⟩:=mem_ready.1 hi
    have his:=lt_of_at ho
    have hw:∀ j,Region.waitsFor .any ops i j=true→listed.getD j false=true:=fun j hj=>by
     obtain ⟨o',ho',e,he,hb,rfl⟩:=waits_iff.1 hj
     have:o' = o:=Option.some.inj (ho'.symm.trans ho)
     subst this
     exact hdeps e he hb
    have hin:i < n:=by
     rcases Nat.lt_or_ge i n with h | h
     · exact h
     ·have:=ok_tailF htl hfl H.closed h his (i:=l) (by omega) hw
      rw [hlf] at this; cases this
    have hff:listed.getD i false=false:=by rw [← getD_iff (by rw [H.size]; exact his)]; exact hf
    have hF:=obs_at hO (by omega) H.fits i (by omega)
    have hvi:vs[i]? = some (vs[i]'(by omega)):=List.getElem?_eq_getElem (by omega)
    generalize hV:vs[i]'(by omega)=V at hvi
    rw [List.drop_eq_getElem_cons (by simpa using his),List.drop_eq_getElem_cons (by omega:i < vs.length),hV] at hF
    have hoe:ops.toList[i]'(by simpa using his)=o:=by
     have:=(Array.getElem?_eq_some_iff.1 ho).2
     simpa using this
    rw [hoe] at hF
    have hstep:=hF.1 w H.below (fun e he hwt=>by
     obtain ⟨h1,h2,h3⟩:=known_mem v he
     rw [h3]
     exact H.facts _ _ h2 (hw _ hwt))
    obtain ⟨hsel,hlook⟩:=ok_look hok hin ho
    have hslots:∀ t ∈ o.looksAt ops,a.tmps[t]? = (pre ops a0 v i).tmps[t]?:=fun t ht=>by
     rw [H.frame.slot,pre_slot]
     have e1:slotv ops a0 v (fun _=>true) i t=slotv ops a0 v (fun k=>decide (k < i)) n t:=by
      rw [slotv_beyond (m:=fun k=>decide (k < i)) (i:=i) (fun k hk=>by simp; omega) (by omega)]
      exact slotv_congr fun k hk _=>⟨by simp [hk],fun _=>rfl⟩
     rw [e1]
     refine slotv_congr fun k hk hkd=>⟨?_,fun _=>rfl⟩
     rcases hlook t ht k hk hkd with h | h
     ·rw [hw k h]
      have:=ok_back hok h
      simp [this]
     ·have hik:=ok_back hok h
      cases hkl:listed.getD k false with
      | true=>have:=H.closed k i hkl h; rw [hff] at this; cases this
      | false=>simp; omega
    have heval:∀ x ∈ o.op.operands,a.eval x=(pre ops a0 v i).eval x:=fun x hx=>by
     cases x with
     | tmp t =>
       have ht:t ∈ o.looksAt ops:=List.mem_append_left _ (List.mem_filterMap.2 ⟨.tmp t,by simpa using hx,rfl⟩)
       simp only [Act.eval,Array.getD_eq_getD_getElem?,hslots t ht]
     | _=>rfl
    have hexec:execOp a.eval o=execOp (pre ops a0 v i).eval o:=execOp_congr o hsel heval
    have hwant:=wanted_congr (ops:=ops) hslots
    have hsize:a.tmps.size=(pre ops a0 v i).tmps.size:=by rw [H.frame.size,pre_size]
    have hdst:dstOf ops i=o.dst:=by unfold dstOf; rw [ho]; rfl
    have hK:∀ x w',V.p x w'→Below w.heap.size w w'→wpAny P .any ops Q fuel (listed.setIfInBounds i true) (a.put o.dst x) w':=fun x w' hp hb=>by
     refine ih _ _ _ (fun k=>if k=i then x else v k) ?_ (fun f hf=>getD_set_true (hfl f hf)) (by have:=cnt_set hf his; omega)
     have hil:i < listed.size:=by rw [H.size]; exact his
     refine ⟨⟨by rw [put_defers,H.frame.defers],by rw [put_size,H.frame.size],fun t=>?_⟩,?_,by simp [H.size],below2 H.below hb,?_,?_,fun t ht=>by rw [getD_set_ne false (by omega)]; exact H.tail t ht⟩
     · rw [put_slot,slotv_set hok (m:=fun k=>listed.getD k false) hin hff (by simp [hil]) (fun k hk=>getD_set_ne false (Ne.symm hk)),hdst,H.frame.size,H.frame.slot]
     ·intro j k hj hjk
      by_cases hji:i=j
      · subst hji; exact getD_set_true (hw k hjk)
      · rw [getD_set_ne false hji] at hj; exact getD_set_true (H.closed j k hj hjk)
     ·intro j V' hj hjl
      by_cases hji:j=i
      ·subst hji
       rw [hvi] at hj
       cases hj
       rw [if_pos rfl]; exact hp
      ·rw [getD_set_ne false (Ne.symm hji)] at hjl
       rw [if_neg hji]; exact V'.mono _ _ _ hb (H.facts j V' hj hjl)
     ·intro j V' d hj hcd
      by_cases hji:j=i
      ·subst hji
       rw [hvi] at hj
       cases hj
       show (if j=j then x else v j)=d
       rw [if_pos rfl]; exact V.tight d hcd x w' hp
      ·show (if j=i then x else v j)=d
       rw [if_neg hji]; exact H.fits j V' d hj hcd
    unfold wpOp
    rw [ho]
    simp only
    unfold wpList at hstep
    rw [hwant]
    split
    ·rename_i hwt
     rw [if_pos hwt] at hstep
     refine .inl ?_
     rcases hstep with hs | ⟨_,hs⟩
     ·unfold Oper.wp at hs ⊢
      rw [hexec]
      exact upon_move hsize hK hs
     · exact absurd hs letsOut_post
    ·rename_i hwt
     rw [if_neg hwt] at hstep
     obtain ⟨y,hy,hp,hb⟩:=hstep
     rw [put_same hsize hy]
     exact hK _ _ hp hb
def valOf (ops:Array Oper) (a:Act) (f:Nat):Value:=match ops[f]? with | some o=>(match o.op with | .move x=>a.eval x | _=>undef) | none=>undef
def FreeV (ops:Array Oper) (vs:List Yield) (a:Act):List Nat→Prop
 | []=>True
 | f::r=>vs[f]? = some (.is (valOf ops a f))∧FreeV ops vs a r
theorem cnt_le (listed:Array Bool):∀ l,cnt listed l≤l:=by
 intro l
 induction l with
 | zero=>exact Nat.le_refl _
 | succ l ih=>unfold cnt; split <;> omega
theorem conf_free (hQ:∀ c a d v w,Q (.panic c) (Act.put a (some d) v) w→Q (.panic c) a w) (hok:regionOk ops n=true) (hn:n≤ops.size) {v:Nat→Value} {full:List Nat} (hfin:∀ (fuel:Nat) (listed:Array Bool) (a:Act) (w:World),
 Head ops n vs w0 a0 v listed a w→(∀ f ∈ full,listed.getD f false=true)→cnt listed ops.size≤fuel→wpAny P .any ops Q fuel listed a w) (hfull:∀ f ∈ full,freeAt ops (ops.toList.map depsOf) f=true∧f < n) :
 ∀ (fr:List Nat),(∀ f ∈ fr,f ∈ full)→FreeV ops vs a0 fr→∀ (fuel:Nat) (listed:Array Bool) (a:Act) (w:World),Head ops n vs w0 a0 v listed a w→(∀ f ∈ full,f ∉ fr→listed.getD f false=true)→cnt listed ops.size≤fuel→wpAny P .any ops Q fuel listed a w:=by
 intro fr
 induction fr with
 | nil=>exact fun _ _ fuel listed a w H hl hc=>hfin fuel listed a w H (fun f hf=>hl f hf (by simp)) hc
 | cons f r ih =>
   intro hm hv fuel listed a w H hl hc
   obtain ⟨hfa,hfn⟩:=hfull f (hm f (by simp))
   by_cases hlf:listed.getD f false=true
   ·exact ih (fun g hg=>hm g (by simp [hg])) hv.2 fuel listed a w H (fun g hg hgr=>by
     by_cases e:g=f
     · rw [e]; exact hlf
     · exact hl g hg (by simp [e,hgr])) hc
   ·have hff:listed.getD f false=false:=by simpa using hlf
    have hfs:f < ops.size:=by omega
    have hft:listed.getD f true=false:=by rw [getD_iff (by rw [H.size]; exact hfs)]; exact hff
    obtain ⟨d,x,hF⟩:=free_of hfa
    have hp:=cnt_pos hft hfs
    obtain ⟨o,ho,hd,hop,hg⟩:=hF.at_
    have hval:valOf ops a0 f=a0.eval x:=by unfold valOf; rw [ho]; simp only [hop]
    have hvf:v f=a0.eval x:=by rw [← hval]; exact H.fits f _ _ hv.1 rfl
    have hev:a.eval x=v f:=by
     rw [hvf]
     cases x with
     | tmp s =>
       simp only [Act.eval,Array.getD_eq_getD_getElem?]
       rw [H.frame.slot,slotv_off]
       intro k hk hks
       obtain ⟨o',ho',hds⟩:=Option.bind_eq_some_iff.1 hks
       cases hkl:listed.getD k false with
       | false=>rfl
       | true =>
         by_cases hkf:k=f
         · rw [hkf,hff] at hkl; cases hkl
         ·have:=H.closed k f hkl (hF.src k o' s hkf ho' rfl hds)
          rw [hff] at this; cases this
     | _=>rfl
    have hdst:dstOf ops f=some d:=by unfold dstOf; rw [ho]; exact hd
    cases fuel with
    | zero=>omega
    | succ fuel =>
      refine pull hQ hF fuel listed a w H.size hft ?_
      rw [hev]
      have hil:f < listed.size:=by rw [H.size]; exact hfs
      refine ih (fun g hg=>hm g (by simp [hg])) hv.2 fuel _ _ w ?_ (fun g hg hgr=>by
       by_cases e:f=g
       · subst e; simp [hil]
       · rw [getD_set_ne false e]; exact hl g hg (by simp [Ne.symm e,hgr])) (by have:=cnt_set hft hfs; omega)
      refine ⟨⟨by rw [put_defers,H.frame.defers],by rw [put_size,H.frame.size],fun t=>?_⟩,?_,by simp [H.size],H.below,?_,H.fits,fun t ht=>by rw [getD_set_ne false (by omega)]; exact H.tail t ht⟩
      ·have hs:=slotv_set hok (a0:=a0) (v:=v) (x:=v f) (t:=t) (m:=fun k=>listed.getD k false) (m':=fun k=>(listed.setIfInBounds f true).getD k false) hfn hff (by simp [hil]) (fun k hk=>getD_set_ne false (Ne.symm hk))
       have hcg:slotv ops a0 (fun k=>if k=f then v f else v k) (fun k=>(listed.setIfInBounds f true).getD k false) n t=slotv ops a0 v (fun k=>(listed.setIfInBounds f true).getD k false) n t :=
        slotv_congr fun k _ _=>⟨rfl,fun _=>by by_cases e:k=f <;> simp [e]⟩
       rw [put_slot,← hcg,hs,hdst,H.frame.size,H.frame.slot]
      ·intro j k hj hjk
       by_cases hjf:f=j
       · subst hjf; exact absurd hjk (hF.none k)
       · rw [getD_set_ne false hjf] at hj; exact getD_set_true (H.closed j k hj hjk)
      ·intro j V' hj hjl
       by_cases hjf:f=j
       ·subst hjf
        rw [hv.1] at hj
        simp only [Option.some.injEq] at hj
        subst hj
        show v f=valOf ops a0 f
        rw [hvf,hval]
       ·rw [getD_set_ne false hjf] at hjl
        exact H.facts j V' hj hjl
theorem wp_region_free {id:Nat} {a:Act} {w:World} (free:List Nat) (n:Nat) (vs:List Yield) (hm:P.follows .mixedOrders=true) (hok:regionOk ops n=true) (htl:tailF free ops n=true)
 (hfr:(free.all fun f=>freeAt ops (ops.toList.map depsOf) f && Nat.blt f n)=true) (hn:decide (n≤ops.size)=true) (hlen:vs.length=n) (hv:FreeV ops vs a free)
 (hQ:∀ c a d v w,Q (.panic c) (Act.put a (some d) v) w→Q (.panic c) a w) (h:Obs P ops w.drew Q 0 ops.toList vs a []):(Code.region id ops true).wp P Q a w:=by
 refine wp_region_any hm ?_
 have hn':n≤ops.size:=of_decide_eq_true hn
 have hfull:∀ f ∈ free,freeAt ops (ops.toList.map depsOf) f=true∧f < n:=fun f hf=>by
  have:=List.all_eq_true.1 hfr f hf
  simp only [Bool.and_eq_true,Nat.blt_eq] at this
  exact this
 refine conf_free (w0:=w.drew) (v:=fun i=>((vs[i]?).bind (·.c)).getD undef) hQ hok hn' (conf_headF hok htl (fun f hf=>(hfull f hf).2) hn' hlen h |> fun H fuel listed a w=>H fuel listed a w _) hfull free (fun _ h=>h) hv ops.size (Array.replicate ops.size false) a w.drew
  ⟨⟨rfl,rfl,fun t=>?_⟩,?_,by simp,Below.refl _ _,?_,?_,?_⟩ (fun f hf hg=>absurd hf hg) (cnt_le _ _)
 · rw [slotv_off (fun k _ _=>getD_replicate_false _ _)]
 · intro i j hi _; rw [getD_replicate_false] at hi; cases hi
 · intro i V _ hi; rw [getD_replicate_false] at hi; cases hi
 · intro i V d hi hd; simp [hi,hd]
 · intro t _; exact getD_replicate_false _ _
end
end Go.Proofs.YthkbcfhjmnpggaaGreat

namespace Go.Proofs.YthkbcfhjmnpggaaGreat
open Go.RowKit
def Rd (w:World) (g:Nat) (s:ByteArray) (l:List UInt8):Prop :=
 ∃ k:Nat,k≤s.size∧s.size≤maxLen∧l=s.data.toList.drop k∧Blk w g 167 #[.string s,.int .i64 k]
def gaveUp:List PanicEntry:=[{ v:=.iface 24 (.int .i64 3),recovered:=false }]
def Took (w:World) (g:Nat) (s:ByteArray) (o:Option (Value × List UInt8)) (e:Ending) (w':World):Prop :=
 match o with
 | some (v,l)=>e=.returned v∧Rd w' g s l∧Only (· = g) w w'
 | none=>e=.panicked gaveUp∧Only (· = g) w w'
theorem Took.int {w w':World} {g:Nat} {s:ByteArray} {o:Option (Int × List UInt8)} {e:Ending} (h:Took w g s (o.map fun x=>(.int .i64 x.1,x.2)) e w') :
 (o=none∧e=.panicked gaveUp∧Only (· = g) w w')∨∃ n l,o=some (n,l)∧e=.returned (.int .i64 n)∧Rd w' g s l∧Only (· = g) w w':=by
 cases o with
 | none=>exact .inl ⟨rfl,h⟩
 | some x=>exact .inr ⟨x.1,x.2,rfl,h⟩
theorem Took.str {w w':World} {g:Nat} {s:ByteArray} {o:Option (ByteArray × List UInt8)} {e:Ending} (h:Took w g s (o.map fun x=>(.string x.1,x.2)) e w') :
 (o=none∧e=.panicked gaveUp∧Only (· = g) w w')∨∃ n l,o=some (n,l)∧e=.returned (.string n)∧Rd w' g s l∧Only (· = g) w w':=by
 cases o with
 | none=>exact .inl ⟨rfl,h⟩
 | some x=>exact .inr ⟨x.1,x.2,rfl,h⟩
theorem need_yes {b:Bool} (hb:b=true) (w:World):Calls Tryz.prog 129 #[.bool b] w fun e w'=>e=.returned (.tuple #[])∧w=w':=by
 subst hb
 go_enter Tryz.func129,Tryz.ntmps129
 go_wp2
 go_end0
 exact ⟨rfl,rfl⟩
theorem need_no {b:Bool} (hb:b=false) (w:World):Calls Tryz.prog 129 #[.bool b] w fun e w'=>e=.panicked gaveUp∧w=w':=by
 subst hb
 go_enter Tryz.func129,Tryz.ntmps129
 go_wp2
 exact ⟨rfl,rfl,rfl⟩
set_option maxRecDepth 100000 in
set_option maxHeartbeats 1000000 in
theorem take_no {w:World} {g:Nat} {s:ByteArray} {l:List UInt8} (h:Rd w g s l) (n:Nat) (hn:l.length < n) (hm:n < 2147483648) :
 Calls Tryz.prog 128 #[.pointer (some ⟨g,0,none⟩),.int .i64 n] w fun e w'=>e=.panicked gaveUp∧Only (· = g) w w':=by
 obtain ⟨k,hk,hs,hl,hb⟩:=h
 have hlen:l.length=s.size - k:=by rw [hl,List.length_drop]; rfl
 have hlt:¬ (n:Int)≤(s.size:Int) - (k:Int):=by omega
 have c0:=hb.cellAt (i:=0) (by simp)
 have c1:=hb.cellAt (i:=1) (by simp)
 simp at c0 c1
 unfold maxLen at hs
 have hk0:(k:Int)≤s.size:=by omega
 clear hl hlen hb hn
 go_enter Tryz.func128,Tryz.ntmps128
 go_wp2_with fail
 go_still_tail 12,(by kernel_rfl)
 go_wp2_with fail
 refine (need_no (by simp; omega) _).mono ?_
 rintro e w1 ⟨rfl,rfl⟩
 go_wp2
 exact ⟨rfl,rfl,(Only.refl _ _).drew⟩
theorem extract_list (s:ByteArray) (a b:Nat):(s.extract a b).data.toList=(s.data.toList.drop a).take (b - a):=by
 rw [ByteArray.data_extract,Array.toList_extract,List.extract_eq_take_drop]
set_option maxRecDepth 100000 in
set_option maxHeartbeats 1000000 in
theorem take_ok {w:World} {g:Nat} {s:ByteArray} {l:List UInt8} (h:Rd w g s l) (n:Nat) (hn:n≤l.length) (hm:n < 2147483648) :
 Calls Tryz.prog 128 #[.pointer (some ⟨g,0,none⟩),.int .i64 n] w fun e w'=>e=.returned (.string ⟨(l.take n).toArray⟩)∧Rd w' g s (l.drop n)∧Only (· = g) w w':=by
 obtain ⟨k,hk,hs,hl,hb⟩:=h
 have hlen:l.length=s.size - k:=by rw [hl,List.length_drop]; rfl
 have hle:(n:Int)≤(s.size:Int) - (k:Int):=by omega
 have hkn:k+n≤s.size:=by omega
 have c0:=hb.cellAt (i:=0) (by simp)
 have c1:=hb.cellAt (i:=1) (by simp)
 simp at c0 c1
 have f1:=hb.frozen 1
 have hex:s.extract k (k+n)=⟨(l.take n).toArray⟩:=by
  apply str_ext
  rw [extract_list,hl,Nat.add_sub_cancel_left]
 have HEX:=Lib.hid hex
 have hsl:=slice_str (P:=Tryz.prog) 9 Tryz.underlying9 s k (k+n) .i64 .i64 k ((k:Int)+(n:Int)) rfl (by omega) (by omega) (by omega)
 have hs':=hs
 unfold maxLen at hs
 have hk0:(k:Int)≤s.size:=by omega
 have HL:=Lib.hid hl
 have HB:=Lib.hid hb
 have HS:=Lib.hid hs'
 clear hl hlen hb hn hex hs'
 go_enter Tryz.func128,Tryz.ntmps128
 go_wp2_with fail
 go_still_tail 12,(by kernel_rfl)
 go_wp2_with fail
 refine (need_yes (by simp; omega) _).mono ?_
 rintro e w1 ⟨rfl,rfl⟩
 go_wp2_with fail
 go_quiet (fail)
 go_wp2_with fail
 go_ret
 refine ⟨?_,⟨k+n,hkn,HS.out,by rw [HL.out,List.drop_drop],?_⟩,?_⟩
 ·show Ending.returned (.string (s.extract k (k+n)))=_
  rw [HEX.out]
 ·rw [show (#[Value.string s,.int .i64 ((k+n:Nat):Int)]:Array Value)=(#[Value.string s,.int .i64 k]).setIfInBounds 1 (.int .i64 ((k:Int)+n)) from by simp]
  exact (HB.out.drewN _).set 1 _
 · exact ((Only.refl (· = g) w).drewN _).set (p:=⟨g,1,none⟩) (.inl rfl) _
set_option maxRecDepth 100000 in
set_option maxHeartbeats 1000000 in
theorem small_any {w:World} {g:Nat} {s:ByteArray} {l:List UInt8} (h:Rd w g s l) (lo hi:Int) :
 Calls Tryz.prog 120 #[.pointer (some ⟨g,0,none⟩),.int .i64 lo,.int .i64 hi] w (Took w g s ((smallP lo hi l).map fun x=>(.int .i64 x.1,x.2))):=by
 cases l with
 | nil =>
   have H1:=Lib.hid (take_no h 1 (by simp) (by omega))
   clear h
   go_enter Tryz.func120,Tryz.ntmps120
   go_wp2_with fail
   refine H1.out.mono ?_
   rintro e w1 ⟨rfl,ho⟩
   have HO:=Lib.hid ho
   clear ho
   go_wp2
   exact ⟨rfl,rfl,HO.out⟩
 | cons b l =>
   have H1:=Lib.hid (take_ok h 1 (by simp) (by omega))
   clear h
   have hb:(b.toNat:Int) < 256:=by have:=b.toNat_lt; omega
   have hb0:(0:Int)≤b.toNat:=Int.natCast_nonneg _
   have hi0:0 < (({ data:=(List.take 1 (b::l)).toArray }:ByteArray)).size:=by simp [ByteArray.size]
   have hx:(({ data:=#[b] }:ByteArray)[0]'(by simp [ByteArray.size]))=b:=rfl
   have hw:wrap64 (b.toNat:Int)=(b.toNat:Int):=by unfold wrap64; omega
   have hm:(smallP lo hi (b::l)).map (fun x=>((.int .i64 x.1,x.2):Value × List UInt8))=if lo≤(b.toNat:Int)∧(b.toNat:Int)≤hi then some (.int .i64 b.toNat,l) else none:=by
    show Option.map _ (if _ then _ else _)=_
    split <;> rfl
   rw [hm]
   clear hm
   by_cases hin:lo≤(b.toNat:Int)∧(b.toNat:Int)≤hi
   ·rw [if_pos hin]
    obtain ⟨h1,h2⟩:=hin
    go_enter Tryz.func120,Tryz.ntmps120
    go_wp2_with fail
    refine H1.out.mono ?_
    rintro e w1 ⟨rfl,hr,ho⟩
    have HO:=Lib.hid ho
    have HR:=Lib.hid hr
    clear ho hr
    go_wp2_with fail
    refine (need_yes (by first | rfl | omega | (simp; omega)) _).mono ?_
    rintro e w2 ⟨rfl,rfl⟩
    go_wp2_with fail
    go_ret
    exact ⟨rfl,HR.out,HO.out⟩
   ·rw [if_neg hin]
    go_enter Tryz.func120,Tryz.ntmps120
    go_wp2_with fail
    refine H1.out.mono ?_
    rintro e w1 ⟨rfl,hr,ho⟩
    have HO:=Lib.hid ho
    clear ho hr
    go_wp2_with fail
    all_goals
     refine (need_no (by first | rfl | omega | (simp; omega)) _).mono ?_
     rintro e w2 ⟨rfl,rfl⟩
     go_wp2_with fail
     exact ⟨rfl,rfl,HO.out⟩
set_option maxRecDepth 100000 in
theorem rdPage_any {w:World} {g:Nat} {s:ByteArray} {l:List UInt8} (h:Rd w g s l) :
 Calls Tryz.prog 130 #[.pointer (some ⟨g,0,none⟩)] w (Took w g s ((smallP 0 7 l).map fun x=>(.int .i64 x.1,x.2))):=by
 have H1:=Lib.hid (small_any h 0 7)
 clear h
 cases hp:smallP 0 7 l with
 | none =>
   rw [hp] at H1
   clear hp
   go_enter Tryz.func130,Tryz.ntmps130
   go_wp2_with fail
   refine H1.out.mono ?_
   rintro e w1 ⟨rfl,ho⟩
   have HO:=Lib.hid ho
   clear ho
   go_wp2
   exact ⟨rfl,rfl,HO.out⟩
 | some x =>
   rw [hp] at H1
   clear hp
   go_enter Tryz.func130,Tryz.ntmps130
   go_wp2_with fail
   refine H1.out.mono ?_
   rintro e w1 ⟨rfl,hr,ho⟩
   have HO:=Lib.hid ho
   have HR:=Lib.hid hr
   clear ho hr
   go_wp2
   go_ret
   exact ⟨rfl,HR.out,HO.out⟩
set_option maxRecDepth 100000 in
theorem copied_any {w:World} {g:Nat} {s:ByteArray} {l:List UInt8} (h:Rd w g s l) (n:Nat) (hm:n < 2147483648) :
 Calls Tryz.prog 131 #[.pointer (some ⟨g,0,none⟩),.int .i64 n] w (Took w g s ((txtP n l).map fun x=>(.string x.1,x.2))):=by
 unfold txtP
 by_cases hn:n≤l.length
 ·rw [if_pos hn]
  have H1:=Lib.hid (take_ok h n hn hm)
  have hs:(⟨(l.take n).toArray⟩:ByteArray).size≤281474976710656:=by
   show (l.take n).toArray.size≤_
   simp
   omega
  have H2:=Lib.hid (fun W=>cloneS_any _ W hs)
  clear h hn hs
  go_enter Tryz.func131,Tryz.ntmps131
  go_wp2_with fail
  refine H1.out.mono ?_
  rintro e w1 ⟨rfl,hr,ho⟩
  have HO:=Lib.hid ho
  have HR:=Lib.hid hr
  clear ho hr
  go_wp2_with fail
  refine (H2.out _).mono ?_
  rintro e w2 ⟨rfl,hb⟩
  obtain ⟨k,h1,h2,h3,h4⟩:=HR.out
  have HF:=Lib.hid (⟨⟨k,h1,h2,h3,h4.keep hb h4.lt⟩,HO.out.more hb⟩:Rd w2 g s (l.drop n)∧Only (· = g) w w2)
  clear h1 h2 h3 h4 hb
  go_wp2
  go_ret
  exact ⟨rfl,HF.out⟩
 ·rw [if_neg hn]
  have H1:=Lib.hid (take_no h n (by omega) hm)
  clear h hn
  go_enter Tryz.func131,Tryz.ntmps131
  go_wp2_with fail
  refine H1.out.mono ?_
  rintro e w1 ⟨rfl,ho⟩
  have HO:=Lib.hid ho
  clear ho
  go_wp2
  exact ⟨rfl,rfl,HO.out⟩
end Go.Proofs.YthkbcfhjmnpggaaGreat

namespace Go.Proofs.YthkbcfhjmnpggaaGreat
open Go.RowKit
set_option maxRecDepth 100000 in
set_option maxHeartbeats 2000000 in
theorem number_no {w:World} {g:Nat} {s:ByteArray} {l:List UInt8} (h:Rd w g s l) (lo:Nat) (hl:l.length < 4) :
 Calls Tryz.prog 121 #[.pointer (some ⟨g,0,none⟩),.int .u32 lo] w (Took w g s none):=by
 have H1:=Lib.hid (take_no h 4 hl (by omega))
 clear h
 go_enter Tryz.func121,Tryz.ntmps121
 go_wp2_with fail
 refine H1.out.mono ?_
 rintro e w1 ⟨rfl,ho⟩
 have HO:=Lib.hid ho
 clear ho
 go_wp2
 exact ⟨rfl,rfl,HO.out⟩
theorem bytesWorld_below (w:World) (e:TypeId) (s:ByteArray):Below w.heap.size w (Lib.bytesWorld w e s) :=
 ⟨rfl,rfl,rfl,by rw [Lib.bytesWorld_size]; omega,fun b hb=>Lib.bytesWorld_at_old w e s b hb⟩
set_option maxRecDepth 100000 in
set_option maxHeartbeats 2000000 in
theorem number_four {w:World} {g:Nat} {s:ByteArray} {a b c d:UInt8} {l:List UInt8} (h:Rd w g s (a::b::c::d::l)) (lo:Nat) (o:Option (Value × List UInt8))
 (hy:o=if lo≤val4 a b c d∧val4 a b c d≤2147483647 then some (.int .i64 (val4 a b c d),l) else none) :
 Calls Tryz.prog 121 #[.pointer (some ⟨g,0,none⟩),.int .u32 lo] w (Took w g s o):=by
 have H1:=Lib.hid (take_ok h 4 (by simp) (by omega))
 clear h
 have HY:=Lib.hid hy
 clear hy
 have ba:(a.toNat:Int) < 256:=by have:=a.toNat_lt; omega
 have bb:(b.toNat:Int) < 256:=by have:=b.toNat_lt; omega
 have bc:(c.toNat:Int) < 256:=by have:=c.toNat_lt; omega
 have bd:(d.toNat:Int) < 256:=by have:=d.toNat_lt; omega
 have hor:bits .or .u32 (bits .or .u32 (bits .or .u32 (bits .or .u32 0 (a.toNat:Int)*256 % 4294967296) (b.toNat:Int)*256 % 4294967296) (c.toNat:Int)*256 % 4294967296) (d.toNat:Int)=((val4 a b c d:Nat):Int) :=
  or_be _ _ _ _ (by omega) (by omega) (by omega) (by omega)
 have hv:val4 a b c d < 4294967296:=by unfold val4; omega
 generalize val4 a b c d=n at *
 have hn0:(0:Int)≤n:=Int.natCast_nonneg _
 have hwr:wrap64 (n:Int)=n:=by unfold wrap64; omega
 go_enter Tryz.func121,Tryz.ntmps121
 go_wp2_with fail
 refine H1.out.mono ?_
 rintro e w1 ⟨rfl,hr,ho⟩
 have HO:=Lib.hid ho
 have HR:=Lib.hid hr
 clear ho hr
 have hcv:=Lib.run_convert_string_bytes (P:=Tryz.prog) w1 9 47 5 ⟨#[a,b,c,d]⟩ Tryz.underlying9 Tryz.underlying47 Tryz.underlying5
 have hcell:=fun j hj=>Lib.bytesWorld_cell w1 5 ⟨#[a,b,c,d]⟩ j hj
 have c0:=hcell 0 (by simp [ByteArray.size])
 have c1:=hcell 1 (by simp [ByteArray.size])
 have c2:=hcell 2 (by simp [ByteArray.size])
 have c3:=hcell 3 (by simp [ByteArray.size])
 simp at c0 c1 c2 c3
 have hbw:=bytesWorld_below w1 5 ⟨#[a,b,c,d]⟩
 generalize Lib.bytesWorld w1 5 ⟨#[a,b,c,d]⟩=w2 at *
 generalize grownCap w1 (⟨#[a,b,c,d]⟩:ByteArray).size 0 5=cap at *
 rw [show (⟨#[a,b,c,d]⟩:ByteArray).size=4 from rfl] at hcv
 have hw:Only (· = g) w w2∧Rd w2 g s l:=by
  obtain ⟨k,h1,h2,h3,h4⟩:=HR.out
  exact ⟨HO.out.more hbw,k,h1,h2,h3,h4.keep hbw h4.lt⟩
 have HW:=Lib.hid hw
 clear hbw hcell HO HR hw
 by_cases hin:lo≤n∧n≤2147483647
 ·obtain rfl:o=some (.int .i64 n,l):=by rw [HY.out,if_pos hin]
  obtain ⟨h1,h2⟩:=hin
  clear HY
  go_wp2_with fail
  refine wp_loop_rounds 5 ?_
  iterate 4
   rw [rounds_succ]
   go_wp2
  rw [rounds_succ]
  go_wp2_with fail
  refine (need_yes (by first | rfl | omega | (simp; omega)) _).mono ?_
  rintro e w3 ⟨rfl,rfl⟩
  go_wp2_with fail
  go_ret
  exact ⟨rfl,HW.out.2,HW.out.1⟩
 ·obtain rfl:o=none:=by rw [HY.out,if_neg hin]
  clear HY
  go_wp2_with fail
  refine wp_loop_rounds 5 ?_
  iterate 4
   rw [rounds_succ]
   go_wp2
  rw [rounds_succ]
  go_wp2_with fail
  all_goals
   refine (need_no (by first | rfl | omega | (simp; omega)) _).mono ?_
   rintro e w3 ⟨rfl,rfl⟩
   go_wp2_with fail
   exact ⟨rfl,rfl,HW.out.1⟩
theorem rdnum_any {w:World} {g:Nat} {s:ByteArray} {l:List UInt8} (h:Rd w g s l) (lo:Nat) :
 Calls Tryz.prog 121 #[.pointer (some ⟨g,0,none⟩),.int .u32 lo] w (Took w g s ((numP lo l).map fun x=>(.int .i64 x.1,x.2))):=by
 match l,h with
 | [],h=>exact number_no h lo (by simp)
 | [_],h=>exact number_no h lo (by simp)
 | [_,_],h=>exact number_no h lo (by simp)
 | [_,_,_],h=>exact number_no h lo (by simp)
 | a::b::c::d::l,h =>
   refine number_four h lo _ ?_
   show Option.map _ (if _ then _ else _)=_
   by_cases hin:lo≤val4 a b c d∧val4 a b c d≤2147483647
   ·rw [if_pos hin,if_pos (by omega)]
    rfl
   ·rw [if_neg hin,if_neg (by omega)]
    rfl
theorem rdnum1 {w:World} {g:Nat} {s:ByteArray} {l:List UInt8} (h:Rd w g s l) :
 Calls Tryz.prog 121 #[.pointer (some ⟨g,0,none⟩),.int .u32 1] w (Took w g s ((numP 1 l).map fun x=>(.int .i64 x.1,x.2))):=rdnum_any h 1
theorem rdnum0 {w:World} {g:Nat} {s:ByteArray} {l:List UInt8} (h:Rd w g s l) :
 Calls Tryz.prog 121 #[.pointer (some ⟨g,0,none⟩),.int .u32 0] w (Took w g s ((numP 0 l).map fun x=>(.int .i64 x.1,x.2))):=rdnum_any h 0
end Go.Proofs.YthkbcfhjmnpggaaGreat
