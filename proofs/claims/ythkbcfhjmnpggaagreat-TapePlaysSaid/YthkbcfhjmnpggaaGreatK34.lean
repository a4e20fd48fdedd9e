/- Texts that belong together, joined: TaM, TaN, ChA, RdA, PgPl, RdP, PgEq, RdE, RdB, PgA, PgB, PgC, PgA2. -/
import Derived.Test.YthkbcfhjmnpggaaGreatK21
import Derived.Lib.AppendZerosOnto
import Derived.Test.YthkbcfhjmnpggaaGreatK00
import Derived.Test.YthkbcfhjmnpggaaGreatK01
import Derived.Deep.RegionHeld3
import Derived.Deep.RegionWith
namespace Go.Proofs.YthkbcfhjmnpggaaGreat
open Go.RowKit
theorem wpList_run3 {P:Program} {w w':World} {ops:Array Oper} {rest:List Oper} {o:Oper} {a:Act} {Q:Exit→Act→World→Prop} (hgd:o.guard=none) (s x:Operand) (t u:TypeId)
 (ho:o.op=.call { callee:=.builtin .append,args:=#[s,x],argTypes:=#[t,u] }) {v y r:Value} (hs:a.eval s=v) (hx:a.eval x=y) (hr:(Builtin.append_ #[t,u] o.type #[v,y]).run P w=.ok r w')
 (h:wpList P ops Q rest (a.put o.dst r) w'):wpList P ops Q (o::rest) a w:=by
 refine wpList_plain hgd fun K hK=>?_
 unfold Oper.wp execOp
 simp only [ho,resolve,invoke,builtin,Sem.run_bind,Sem.run_pure,Result.andThen_ok,List.map_toArray,List.map_cons,List.map_nil,hs,hx,hr]
 exact hK _ _ h
theorem slice_upto2 (a:Option Addr) (n cap p:Nat) (hp:p≤cap):∀ W,(Instr.slice 40 (.slice a n cap) none (some (.int .i64 p)) none).run Tryz.prog W=.ok (.slice a p cap) W:=fun W=>by
 have:=run_slice_h (P:=Tryz.prog) W 40 a n cap ta_und .i64 p (by omega) (by omega)
 rw [ta_elem,ta_size] at this
 simp only [sliced,Result.andThen,Int.toNat_natCast] at this
 rw [this]
 by_cases hc:cap=0
 ·subst hc
  have:p=0:=by omega
  simp [this]
 ·rw [if_neg (by omega)]
  cases a with
  | none=>simp
  | some ad =>
    obtain ⟨b,o,pth⟩:=ad
    simp [Addr.add]
section
variable {w:World} {F:Foot} {g:Nat} {t:Tp}
set_option maxRecDepth 100000 in
set_option maxHeartbeats 4000000 in
theorem tapeCopy_any (h:IsTp w F g t):Calls Tryz.prog 24 #[.pointer (some ⟨g,0,none⟩)] w fun e w'=>∃ g2 F2,e=.returned (.pointer (some ⟨g2,0,none⟩))∧IsTp w' F2 g2 t∧(∀ b,F2 b→w.heap.size≤b)∧Below w.heap.size w w':=by
 have HT:=Lib.hid h
 have C0:Hid (∀ W,Below w.heap.size w W→W.cell? ⟨g,0,none⟩=some (.int .i64 ((t.upto:Int) - 1))):=fun W hW=>by
  obtain ⟨_,v,q,r⟩:=HT.out.below hW
  exact r.cells.1
 have LS:=Lib.hid (fun W (hW:Below w.heap.size w W)=>tapeList_any (HT.out.below hW))
 have HOK:=Lib.hid h.1
 clear h
 obtain ⟨s,hs⟩:∃ s:Int,(t.upto:Int) - 1=s:=⟨_,rfl⟩
 rw [hs] at C0
 have HS:=Lib.hid hs
 clear hs
 go_enter Tryz.func24,Tryz.ntmps24
 go_upto_region 3 with fail
 refine' wp_region_conf 6 (.is _::.is _::.is _::.is _::.is _::Yield.own w.heap.size t.l::[]) (by kernel_rfl) (by kernel_rfl) (by kernel_rfl) (by kernel_rfl) rfl ?main
 case main =>
  iterate 5
   refine obs_is (fun w8 hE2 _=>?_) ?_
   ·have c0:=C0.out w8 ((Below.refl w.heap.size w).drew.trans hE2)
    clear hE2
    go_wp2_with fail
    exact post_is (Below.refl _ _)
   simp only [Act.put,sA,sB,sC]
  refine ⟨fun w8 hE2 _=>?_,fun vl=>?_⟩
  ·have hB:=(Below.refl w.heap.size w).drew.trans hE2
   have K:=Lib.hid (LS.out w8 hB)
   have HSZ:Hid (w.heap.size≤w8.heap.size):=hB.size
   clear hE2 hB
   go_wp2_with fail
   refine K.out.mono ?_
   rintro e w9 ⟨v',q',rfl,hq,ho,hb,hf⟩
   have P9:Hid ((Yield.own w.heap.size t.l).p v' w9):=⟨q',hq,ho.low HSZ.out,hf.base HSZ.out⟩
   have HB9:=Lib.hid hb
   clear hq ho hb hf K
   go_wp2
   exact ⟨v',rfl,P9.out,HB9.out⟩
  simp only [Act.put,sA,sB,sC]
  refine obs_end fun w8 hE3 hkn=>?_
  obtain ⟨q,hq,ho,hf⟩:(Yield.own w.heap.size t.l).p vl w8:=hkn _ (List.mem_cons_self ..)
  have hB8:=(Below.refl w.heap.size w).drew.trans hE3
  have hb9:Below w8.heap.size w8 (w8.alloc (.cells #[.int .i64 s,vl] 95)):=(Below.refl _ _).alloc (Nat.le_refl _) _
  have FIN:Hid (IsTp (w8.alloc (.cells #[.int .i64 s,vl] 95)) (fun b=>w.heap.size≤b∧b < w8.heap.size+1) w8.heap.size t∧Below w.heap.size w (w8.alloc (.cells #[.int .i64 s,vl] 95))):=by
   refine ⟨⟨HOK.out,vl,q,?_,(ho.low (Nat.zero_le _)).keep hb9,hq,⟨hB8.size,by omega⟩,fun b hb=>⟨(ho.own.lt b hb).1,by have:=(ho.own.lt b hb).2; omega⟩,fun x hx=>⟨fun hr b hb=>?_,fun hr b hb=>?_⟩,fun b hb=>by simp; omega⟩,below2 hB8 hb9⟩
   ·have:=Blk.new w8 95 #[.int .i64 s,vl]
    unfold tpCells
    rw [HS.out]
    exact this
   ·have h1:=(hf x hx).1 hr b hb
    have h2:=(ho.lists x hx).t.blt hr b hb
    exact ⟨⟨h1,by omega⟩,by omega⟩
   ·have h1:=(hf x hx).2 hr b hb
    have h2:=(ho.lists x hx).p.blt hr b hb
    exact ⟨⟨h1,by omega⟩,by omega⟩
  obtain ⟨a',c',hv'⟩:=own_slice ho.own
  clear hq ho hf hE3 hkn hB8 hb9 LS C0 HT
  subst hv'
  change wpList _ _ _ _ _ _
  go_wp2_with fail
  go_ret
  exact ⟨w8.heap.size,_,rfl,FIN.out.1,fun b hb=>hb.1,FIN.out.2⟩
end
set_option maxRecDepth 100000 in
set_option maxHeartbeats 4000000 in
theorem growNil_any (n:Nat) (hn:n≤100000000) (w:World):Calls Tryz.prog 90 #[.slice none 0 0,.int .i64 n] w fun e w'=>∃ v,e=.returned v∧OwnE w' w.heap.size v []∧Below w.heap.size w w':=by
 by_cases h0:n=0
 ·subst h0
  go_enter Tryz.func90,Tryz.ntmps90
  go_wp2
  go_ret
  exact ⟨_,rfl,OwnE.nil _ _,Below.refl _ _⟩
 ·obtain ⟨i0,hi0,hz0,hz1,hz2⟩:=info_parts ta_info
  have hni:(n:Int)≤100000000:=by omega
  have hn1:(0:Int) < n:=by omega
  have hs1:=fun W=>run_slice_h (P:=Tryz.prog) W 40 none 0 0 ta_und .i64 0 (by omega) (by omega)
  have hrun:=fun W=>Lib.run_append_grow_zeros (P:=Tryz.prog) W 40 3 40 108 i0 _ .i64 .i64 Tryz.underlying40 Tryz.underlying3 hi0 hz0 none 0 0 [] (by simp [Builtin.firstCells]) n (by omega) (by rw [hz1]; omega) (by omega) (by omega) (by rw [hz2]; omega) (growslice_fits (old:=0) (by omega) (by rw [hz2]; omega))
  have hge:=fun W=>grownCap_ge W (0+n) 0 108
  have hle:=fun W=>grownCap_le_maxLen W (0+n) 0 108 (by unfold maxLen; omega)
  obtain ⟨CAP,hCAP⟩:∃ f:World→Nat,f=fun W=>grownCap W (0+n) 0 108:=⟨_,rfl⟩
  have hge2:∀ W,n≤CAP W∧CAP W≤maxLen:=fun W=>by rw [hCAP]; have h1:=hge W; have h2:=hle W; exact ⟨by simpa using h1,h2⟩
  obtain ⟨CS,hCS⟩:∃ f:World→Array Value,f=fun W=>(([]:List Value).toArray++Builtin.zeroCells (Value.agg #[.int .i64 0,.int .i64 0,.int .i64 0,.int .i64 0,.int .i64 0,.int .i64 0,.int .i64 0,.int .i64 0,.string ⟨#[]⟩,.string ⟨#[]⟩,.slice none 0 0,.slice none 0 0]).cells n++Builtin.zeroCells (Value.agg #[.int .i64 0,.int .i64 0,.int .i64 0,.int .i64 0,.int .i64 0,.int .i64 0,.int .i64 0,.int .i64 0,.string ⟨#[]⟩,.string ⟨#[]⟩,.slice none 0 0,.slice none 0 0]).cells (CAP W - n)):=⟨_,rfl⟩
  have hsize:∀ W,(CS W).size=CAP W*12:=fun W=>by
   rw [hCS]
   have:=(hge2 W).1
   simp only [Array.size_append,size_zeroCells,List.size_toArray,List.length_nil]
   show 0+n*12+(CAP W - n)*12=CAP W*12
   omega
  have hrun2:∀ W,(Builtin.append_ #[40,3] 40 #[.slice none 0 0,.int .i64 n]).run Tryz.prog W=.ok (.slice (some ⟨W.heap.size,0,none⟩) n (CAP W)) (W.drew.alloc (.cells (CS W) 108)):=fun W=>by
   have:=hrun W
   rw [hCS,hCAP]
   simpa using this
  have hs2:∀ W:World,∀ x,(Instr.slice 40 (.slice (some ⟨x,0,none⟩) n (CAP W)) none (some (.int .i64 0)) none).run Tryz.prog (W.drew.alloc (.cells (CS W) 108))=.ok (.slice (some ⟨x,0,none⟩) 0 (CAP W)) (W.drew.alloc (.cells (CS W) 108)):=fun W x=>slice_upto2 (some ⟨x,0,none⟩) n (CAP W) 0 (Nat.zero_le _) _
  have HSZ:=Lib.hid hsize
  have HG2:=Lib.hid hge2
  clear hrun hge hle hCAP hCS hsize hge2 hs1 hi0 hz0 hz1 hz2
  go_enter Tryz.func90,Tryz.ntmps90
  go_wp2_with (at_builtin; refine wpList_run3 rfl (.tmp 20) (.tmp 21) 40 3 rfl rfl rfl (hrun2 _) ?_)
  go_ret
  have hb:Below w.heap.size w (w.drew.alloc (.cells (CS w) 108)):=(Below.refl _ _).drew.alloc (Nat.le_refl _) _
  refine ⟨_,rfl,⟨⟨rfl,.inr ⟨w.heap.size,CAP w,CS w,rfl,Nat.le_refl _,?_,Nat.zero_le _,(HG2.out w).2,HSZ.out w,by simp [entsV]⟩⟩,fun x hx=>by simp at hx,fun x hx=>by simp at hx⟩,hb⟩
  exact heap_alloc_new w.drew _
end Go.Proofs.YthkbcfhjmnpggaaGreat

namespace Go.Proofs.YthkbcfhjmnpggaaGreat
open Go.RowKit
set_option maxRecDepth 100000 in
set_option maxHeartbeats 8000000 in
theorem concat_any {w:World} {gs B1 B2:Nat} {v1 v2:Value} {q1 q2:List Qe} (h1:OwnE w B1 v1 q1) (h2:OwnE w B2 v2 q2) (hl1:q1.length≤40000000) (hl2:q2.length≤40000000) (hg:Blk w gs 40 #[v1,v2]) :
 Calls Tryz.prog 62 #[.slice (some ⟨gs,0,none⟩) 2 2] w fun e w'=>∃ v,e=.returned v∧OwnE w' w.heap.size v (q1++q2)∧Below w.heap.size w w':=by
 obtain ⟨a1,c1,hv1⟩:=own_slice h1.own
 obtain ⟨a2,c2,hv2⟩:=own_slice h2.own
 have H1:=Lib.hid h1
 have H2:=Lib.hid h2
 have C:Hid (∀ W,Below w.heap.size w W→W.cell? ⟨gs,0,none⟩=some (.slice a1 q1.length c1)∧W.cell? ⟨gs,1,none⟩=some (.slice a2 q2.length c2)):=fun W hW=>by
  have B:=hg.keep hW hg.lt
  rw [hv1,hv2] at B
  exact ⟨B.cell 0,B.cell 1⟩
 have hn1:(q1.length:Int)≤40000000:=by omega
 have hn2:(q2.length:Int)≤40000000:=by omega
 have HN:=Lib.hid (And.intro hl1 hl2)
 obtain ⟨i0,hi0,hz0,hz1,hz2⟩:=info_parts ta_info
 have HI:=Lib.hid (And.intro hi0 (And.intro hz0 (And.intro hz1 hz2)))
 subst hv1
 subst hv2
 clear h1 h2 hg hl1 hl2 hi0 hz0 hz1 hz2
 go_enter Tryz.func62,Tryz.ntmps62
 go_wp2_with fail
 go_loopw [3,5,11] (fun vs _ vk wr=>Below w.heap.size w wr∧∃ (k:Nat) (s:Nat),vk=.int .i64 k∧vs=.int .i64 s∧((k=0∧s=0)∨(k=1∧s=q1.length)∨(k=2∧s=q1.length+q2.length))) (fun _ _ vk _=>2 - (intOf vk).toNat)
 case atStart=>exact ⟨Below.refl _ _,0,0,rfl,rfl,.inl ⟨rfl,rfl⟩⟩
 case round =>
  obtain ⟨hB,k,s,rfl,rfl,hks⟩:=hrel
  have HB:=Lib.hid hB
  obtain ⟨d0,d1⟩:=C.out wr hB
  clear hB
  rcases hks with ⟨rfl,rfl⟩ | ⟨rfl,rfl⟩ | ⟨rfl,rfl⟩
  ·go_wp2_with fail
   exact ⟨⟨HB.out,1,q1.length,rfl,by go_num,.inr (.inl ⟨rfl,rfl⟩)⟩,by simp [intOf]⟩
  ·go_wp2_with fail
   exact ⟨⟨HB.out,2,q1.length+q2.length,rfl,by go_num,.inr (.inr ⟨rfl,rfl⟩)⟩,by simp [intOf]⟩
  ·clear d0 d1
   have GR:=Lib.hid (fun W=>growNil_any (q1.length+q2.length) (by have:=HN.out; omega) W)
   go_wp2_with fail
   refine (GR.out _).mono ?_
   rintro e w2 ⟨v,rfl,ho,hb⟩
   have HO:=Lib.hid (ho.low HB.out.size)
   have HB2:=Lib.hid (below2 HB.out hb)
   obtain ⟨va,vc,hv⟩:=own_slice ho.own
   clear ho hb GR HB
   subst hv
   go_wp2_with fail
   go_loopw [6,8,27] (fun v _ vk wr=>Below w.heap.size w wr∧∃ (k:Nat) (q:List Qe),vk=.int .i64 k∧OwnE wr w.heap.size v q∧((k=0∧q = [])∨(k=1∧q=q1)∨(k=2∧q=q1++q2))) (fun _ _ vk _=>2 - (intOf vk).toNat)
   case atStart=>exact ⟨HB2.out,0,[],rfl,HO.out,.inl ⟨rfl,rfl⟩⟩
   case round =>
    obtain ⟨hB,k,q,rfl,ho,hks⟩:=hrel
    have HB:=Lib.hid hB
    clear HB2 HO
    obtain ⟨d0,d1⟩:=C.out wr hB
    have HO:=Lib.hid ho
    obtain ⟨wa,wcp,hw⟩:=own_slice ho.own
    have S1:=Lib.hid (H1.out.keep hB)
    have S2:=Lib.hid (H2.out.keep hB)
    have hsz:w.heap.size≤wr.heap.size:=hB.size
    clear hB ho
    obtain ⟨hi0,hz0,hz1,hz2⟩:=id HI.out
    have JOIN1:Hid (∀ w3 v3,w3.ownsRow w.heap.size 108 12 v3 (q.length+q1.length) (entsV q++entsV q1)→wr.grownBy w3 u6.ownBlock→(v3.ownBlock=u6.ownBlock∨v3.ownBlock=some wr.heap.size)→OwnE w3 w.heap.size v3 (q++q1)∧Below w.heap.size w w3):=fun w3 v3 h1 h2 h3 =>
     ⟨HO.out.joined S1.out (fun x hx=>⟨fun hr b hb=>(H1.out.lists x hx).t.blt hr b hb,fun hr b hb=>(H1.out.lists x hx).p.blt hr b hb⟩) hsz h1 h2 h3,HB.out.grown h2 hsz fun k hk=>(HO.out.own.lt k hk).1⟩
    have JOIN2:Hid (∀ w3 v3,w3.ownsRow w.heap.size 108 12 v3 (q.length+q2.length) (entsV q++entsV q2)→wr.grownBy w3 u6.ownBlock→(v3.ownBlock=u6.ownBlock∨v3.ownBlock=some wr.heap.size)→OwnE w3 w.heap.size v3 (q++q2)∧Below w.heap.size w w3):=fun w3 v3 h1 h2 h3 =>
     ⟨HO.out.joined S2.out (fun x hx=>⟨fun hr b hb=>(H2.out.lists x hx).t.blt hr b hb,fun hr b hb=>(H2.out.lists x hx).p.blt hr b hb⟩) hsz h1 h2 h3,HB.out.grown h2 hsz fun k hk=>(HO.out.own.lt k hk).1⟩
    subst hw
    have X1:=Lib.hid S1.out.srcx
    have X2:=Lib.hid S2.out.srcx
    have hll:=HN.out
    rcases hks with ⟨rfl,rfl⟩ | ⟨rfl,rfl⟩ | ⟨rfl,rfl⟩
    ·clear JOIN2 X2 S1 S2
     go_wp2_with (at_builtin; refine wpList_append_src rfl (.tmp 31) (.tmp 32) 40 rfl w.heap.size 108 i0 _ 12 144 Tryz.underlying40 hi0 hz0 hz1 hz2 rfl (by decide) _ _ _ rfl HO.out.own _ q1.length (entsV q1) rfl X1.out (by simp only [maxLen,List.length_nil]; omega) (by simp only [List.length_nil]; omega) hsz ?_)
     intro v3 w3 hown hgrow hat
     have J:=Lib.hid (JOIN1.out w3 v3 (by simpa using hown) hgrow hat)
     clear hown hgrow hat JOIN1 X1 HO
     go_wp2_with fail
     exact ⟨⟨J.out.2,1,_,rfl,J.out.1,.inr (.inl ⟨rfl,rfl⟩)⟩,by simp [intOf]⟩
    ·clear JOIN1 X1 S1 S2
     go_wp2_with (at_builtin; refine wpList_append_src rfl (.tmp 31) (.tmp 32) 40 rfl w.heap.size 108 i0 _ 12 144 Tryz.underlying40 hi0 hz0 hz1 hz2 rfl (by decide) _ _ _ rfl HO.out.own _ q2.length (entsV q2) rfl X2.out (by simp only [maxLen]; omega) (by omega) hsz ?_)
     intro v3 w3 hown hgrow hat
     have J:=Lib.hid (JOIN2.out w3 v3 hown hgrow hat)
     clear hown hgrow hat JOIN2 X2 HO
     go_wp2_with fail
     exact ⟨⟨J.out.2,2,_,rfl,J.out.1,.inr (.inr ⟨rfl,rfl⟩)⟩,by simp [intOf]⟩
    ·clear JOIN1 JOIN2 X1 X2 S1 S2
     go_wp2
     go_ret
     exact ⟨_,rfl,HO.out,HB.out⟩
end Go.Proofs.YthkbcfhjmnpggaaGreat

namespace Go.Proofs.YthkbcfhjmnpggaaGreat
abbrev En:=Int × Rc
namespace Ch
def Rises (l:List En):Prop:=l.Pairwise fun x y=>x.1 < y.1
instance (l:List En):Decidable (Rises l):=inferInstanceAs (Decidable (List.Pairwise _ _))
def Bad (t p:Int) (r:Rc):Prop:=(r.kind≠1∧r.kind≠2)∨r.txn≠t∨p≤r.prev∨(r.kind=2∧p≤r.next)
instance (t p:Int) (r:Rc):Decidable (Bad t p r):=inferInstanceAs (Decidable (_∨_))
def at_ (l:List En) (t p:Int):Rc × Nat:=match l.find? fun x=>x.1 == p with
 | none=>(Rc.nil,7)
 | some x=>if Bad t p x.2 then (x.2,1) else (x.2,0)
section
variable {l l':List En} {t p:Int} {m:Bool} {stop stop':Int→Bool} {r:Rc} {e:Nat}
end
end Ch
end Go.Proofs.YthkbcfhjmnpggaaGreat

namespace Go.Proofs.YthkbcfhjmnpggaaGreat
structure Ap where
 P:Type
 ap:P→Int→Rc→P
 at_:P→Int
 cases:∀ p x r,ap p x r=p∨(at_ p < x∧at_ (ap p x r)=x)
namespace Ap
variable (c:Ap)
def fold (p:c.P) (l:List En):c.P:=l.foldl (fun p x=>c.ap p x.1 x.2) p
theorem fold_cons (p:c.P) (x:En) (l:List En):c.fold p (x::l)=c.fold (c.ap p x.1 x.2) l:=rfl
theorem fold_app (p:c.P) (l m:List En):c.fold p (l++m)=c.fold (c.fold p l) m:=List.foldl_append
theorem old {p:c.P} {x:Int} {r:Rc} (h:x≤c.at_ p):c.ap p x r=p:=by
 rcases c.cases p x r with e | ⟨e,_⟩
 · exact e
 · omega
theorem fold_at:∀ {l:List En} {p:c.P} {b:Int},Ch.Rises l→(∀ x ∈ l,b≤x.1)→c.fold p l=p∨b≤c.at_ (c.fold p l)
 | [],_,_,_,_=>.inl rfl
 | x::l,p,b,hr,hb=>by
   obtain ⟨h1,h2⟩:=List.pairwise_cons.1 hr
   rw [fold_cons]
   have hx:=hb x List.mem_cons_self
   rcases fold_at (l:=l) (p:=c.ap p x.1 x.2) (b:=b) h2 (fun y hy=>hb y (List.mem_cons_of_mem _ hy)) with e | e
   ·rw [e]
    rcases c.cases p x.1 x.2 with k | ⟨_,k⟩
    · exact .inl k
    · exact .inr (by rw [k]; exact hx)
   · exact .inr e
def Of (from_:Int) (n:Nat) (x:En):Prop:=from_≤x.1∧x.2.page=n
instance (from_:Int) (n:Nat) (x:En):Decidable (Of from_ n x):=inferInstanceAs (Decidable (_∧_))
structure Does (ok:c.P→Prop) (l:List En):Prop where
 keep:∀ p,ok p→∀ x ∈ l,ok (c.ap p x.1 x.2)
 go:∀ p,ok p→∀ x ∈ l,c.at_ p < x.1→c.at_ (c.ap p x.1 x.2)=x.1
theorem Does.tail {c:Ap} {ok:c.P→Prop} {x:En} {l:List En} (h:c.Does ok (x::l)):c.Does ok l:=⟨fun p hp y hy=>h.keep p hp y (List.mem_cons_of_mem _ hy),fun p hp y hy=>h.go p hp y (List.mem_cons_of_mem _ hy)⟩
theorem Does.last {c:Ap} {ok:c.P→Prop}:∀ {l:List En} {p:c.P},c.Does ok l→ok p→Ch.Rises l→ok (c.fold p l)∧∀ x ∈ l,x.1≤c.at_ (c.fold p l)
 | [],_,_,hp,_=>⟨hp,fun _ h=>nomatch h⟩
 | x::l,p,h,hp,hr=>by
   obtain ⟨h1,h2⟩:=List.pairwise_cons.1 hr
   have hk:=h.keep p hp x List.mem_cons_self
   obtain ⟨i1,i2⟩:=Does.last h.tail hk h2
   rw [fold_cons]
   refine ⟨i1,fun y hy=>?_⟩
   rcases List.mem_cons.1 hy with rfl | hy
   ·have hx:y.1≤c.at_ (c.ap p y.1 y.2):=by
     by_cases g:c.at_ p < y.1
     · rw [h.go p hp y List.mem_cons_self g]; exact Int.le_refl _
     · rw [c.old (by omega)]; omega
    rcases c.fold_at (l:=l) (p:=c.ap p y.1 y.2) (b:=y.1) h2 (fun z hz=>by have:=h1 z hz; omega) with e | e
    · rw [e]; exact hx
    · exact e
   · exact i2 y hy
end Ap
end Go.Proofs.YthkbcfhjmnpggaaGreat

namespace Go.Proofs.YthkbcfhjmnpggaaGreat
open Go.RowKit
def putS (d:ByteArray) (o:Nat) (s:ByteArray):ByteArray:=⟨(splice d.data.toList o s.data.toList).toArray⟩
theorem putS_data (d:ByteArray) (o:Nat) (s:ByteArray):(putS d o s).data.toList=splice d.data.toList o s.data.toList:=rfl
theorem splice_page (X O:Nat) (d s:List UInt8):splice (be4 X++d) (4+O) s=be4 X++splice d O s:=by
 unfold splice
 rw [List.take_append,List.drop_append,be4_len,show 4+O - 4=O by omega,show 4+O+s.length - 4=O+s.length by omega,List.take_of_length_le (by rw [be4_len]; omega),List.drop_of_length_le (by rw [be4_len]; omega),List.nil_append]
 simp only [List.append_assoc]
theorem sizeWf {s:ByteArray} (h:s.size≤maxLen):(Lit.int .i64 (s.size:Int)).wf=true:=by
 unfold maxLen at h
 simp [Lit.wf,IntKind.min,IntKind.max,IntKind.signed,IntKind.bits]
 omega
end Go.Proofs.YthkbcfhjmnpggaaGreat

namespace Go.Proofs.YthkbcfhjmnpggaaGreat
namespace Hs
abbrev Pge:=Int × ByteArray
def RightP (p:Pge):Prop:=Num p.1∧p.2.size=220
instance (p:Pge):Decidable (RightP p):=inferInstanceAs (Decidable (_∧_))
def Chg16 (r:Rc):Prop:=r.kind=1∨r.kind=2
instance (r:Rc):Decidable (Chg16 r):=inferInstanceAs (Decidable (_∨_))
def SpotP (r:Rc):Prop:=0≤r.off∧r.off+r.after.size≤220
instance (r:Rc):Decidable (SpotP r):=inferInstanceAs (Decidable (_∧_))
def apP (p:Pge) (x:Int) (r:Rc):Pge:=if Chg16 r∧p.1 < x∧RightP p∧Num x∧SpotP r then (x,putS p.2 r.off.toNat r.after) else p
def apA:Ap where
 P:=Pge
 ap:=apP
 at_:=Prod.fst
 cases:=fun p x r=>by
  unfold apP
  split
  · rename_i k; exact .inr ⟨k.2.1,rfl⟩
  · exact .inl rfl
def noughtsP:ByteArray:=⟨(List.replicate 220 0).toArray⟩
def zeroP:Pge:=(0,noughtsP)
end Hs
end Go.Proofs.YthkbcfhjmnpggaaGreat

namespace Go.Proofs.YthkbcfhjmnpggaaGreat
open Go.RowKit
theorem page_guard:Tryz.prog.eqGuardType Tryz.prog.depth 76=false:=by kernel_rfl
set_option maxRecDepth 100000 in
set_option maxHeartbeats 1000000 in
theorem page_neq (A A':Int) (D D':ByteArray) (W:World):(binOp .neq 76 (.agg #[.int .i64 A,.string D]) (.agg #[.int .i64 A',.string D'])).run Tryz.prog W =
 .ok (.bool (!(A == A' && D.toList == D'.toList))) W:=by
 go_simp
 by_cases h1:A=A' <;> by_cases h2:D.toList=D'.toList <;> simp [h1,h2]
end Go.Proofs.YthkbcfhjmnpggaaGreat

namespace Go.Proofs.YthkbcfhjmnpggaaGreat
open Go.RowKit
def pgCells (p:Hs.Pge):List Value:=[.int .i64 p.1,.string p.2]
def pgV (l:List Hs.Pge):List Value:=l.flatMap pgCells
theorem pgV_len (l:List Hs.Pge):(pgV l).length=l.length*2:=by
 induction l with
 | nil=>rfl
 | cons x l ih=>show (pgCells x++pgV l).length=_; rw [List.length_append,ih,List.length_cons]; show 2+_=_; omega
theorem pgV_at:∀ (l:List Hs.Pge) (k:Nat) (h:k < l.length),(pgV l)[k*2]? = some (.int .i64 l[k].1)∧(pgV l)[k*2+1]? = some (.string l[k].2)
 | [],k,h=>by simp at h
 | x::l,0,_=>⟨rfl,rfl⟩
 | x::l,k+1,h=>by
   have ih:=pgV_at l k (by simpa using h)
   have e:(pgCells x).length=2:=rfl
   show (pgCells x++pgV l)[(k+1)*2]? = _∧(pgCells x++pgV l)[(k+1)*2+1]? = _
   rw [List.getElem?_append_right (by omega),List.getElem?_append_right (by omega),e,show (k+1)*2 - 2=k*2 by omega,show (k+1)*2+1 - 2=k*2+1 by omega]
   exact ih
theorem pgV_ne {l:List Hs.Pge} {k:Nat} (h:k < l.length):pgV l≠[]:=fun e=>by
 have:=congrArg List.length e
 rw [pgV_len] at this
 simp only [List.length_nil] at this
 omega
def IsPgs (w:World) (v:Value) (l:List Hs.Pge):Prop:=Elems w v l.length (pgV l)
namespace IsPgs
variable {w w':World} {v:Value} {l:List Hs.Pge}
theorem at_ (h:IsPgs w v l) {k:Nat} (hk:k < l.length):∃ b off cap,v=.slice (some ⟨b,off,none⟩) l.length cap∧l.length≤cap∧cap≤maxLen∧b < w.heap.size ∧
 ∀ j (hj:j < l.length),w.cell? ⟨b,off+j*2,none⟩=some (.int .i64 l[j].1)∧w.cell? ⟨b,off+j*2+1,none⟩=some (.string l[j].2):=by
 obtain ⟨b,off,cap,e,h1,h2,h3,hc⟩:=Elems.cases h (pgV_ne hk)
 refine ⟨b,off,cap,e,h1,h2,h3,fun j hj=>?_⟩
 obtain ⟨e1,e2⟩:=pgV_at l j hj
 exact ⟨hc _ _ e1,by have:=hc _ _ e2; rwa [← Nat.add_assoc] at this⟩
end IsPgs
section
set_option maxRecDepth 100000
set_option maxHeartbeats 8000000
end
end Go.Proofs.YthkbcfhjmnpggaaGreat

namespace Go.Proofs.YthkbcfhjmnpggaaGreat
namespace Hs
def oneL (L:List En) (n:Int):Pge:=apA.fold zeroP (L.filter fun x=>decide (x.2.page=n))
theorem one_snoc (L:List En) (x:En) (n:Int):oneL (L++[x]) n=if x.2.page=n then apP (oneL L n) x.1 x.2 else oneL L n:=by
 refine (congrArg (apA.fold zeroP) (List.filter_append ..)).trans ((apA.fold_app zeroP _ _).trans ?_)
 by_cases h:x.2.page=n
 · rw [if_pos h,List.filter_cons_of_pos (by simpa using h)]; rfl
 · rw [if_neg h,List.filter_cons_of_neg (by simpa using h)]; rfl
theorem one_take {L:List En} {k:Nat} (h:k < L.length) (n:Int):oneL (L.take (k+1)) n=if L[k].2.page=n then apP (oneL (L.take k) n) L[k].1 L[k].2 else oneL (L.take k) n:=by
 rw [← one_snoc,List.take_append_getElem h]
end Hs
end Go.Proofs.YthkbcfhjmnpggaaGreat

namespace Go.Proofs.YthkbcfhjmnpggaaGreat
open Go.RowKit
def PgOk (a:Int) (d:ByteArray):Prop:=Num a∧d.size=220
instance (a:Int) (d:ByteArray):Decidable (PgOk a d):=inferInstanceAs (Decidable (_∧_))
theorem bool_out {x:Bool} {p:Prop} [Decidable p] (h:x=true↔p):Ending.returned (.bool x)=Ending.returned (.bool (decide p)):=by
 rw [show x=decide p from by rw [Bool.eq_iff_iff,h]; simp]
section
variable (a:Int) (d:ByteArray) (w:World)
theorem pgMayPlace_any (yes:Bool) (hy:yes=decide (Num a)):Calls Tryz.prog 125 #[.int .i64 a] w fun e w'=>e=.returned (.bool yes)∧w=w':=by
 have HY:=Lib.hid hy
 clear hy
 go_enter Tryz.func125,Tryz.ntmps125
 by_cases h0:(0:Int)≤a
 all_goals
  go_wp2
  go_ret
  refine ⟨?_,rfl⟩
  rw [HY.out]
  refine bool_out ?_
  unfold Num
  simp
  try omega
set_option maxRecDepth 100000 in
theorem pgRight_any (yes:Bool) (hy:yes=decide (PgOk a d)):Calls Tryz.prog 115 #[.agg #[.int .i64 a,.string d]] w fun e w'=>e=.returned (.bool yes)∧Below w.heap.size w w':=by
 have HY:=Lib.hid hy
 clear hy
 have M:=Lib.hid (fun W=>pgMayPlace_any a W _ rfl)
 go_enter Tryz.func115,Tryz.ntmps115
 go_wp2_with fail
 refine (M.out _).mono ?_
 rintro e w1 ⟨rfl,rfl⟩
 by_cases h0:Num a
 ·rw [decide_eq_true h0]
  go_wp2
  go_ret
  refine ⟨?_,(Below.refl _ _).alloc (Nat.le_refl _) _⟩
  rw [HY.out]
  refine bool_out ?_
  unfold PgOk
  simp [h0]
  try omega
 ·rw [decide_eq_false h0]
  go_wp2
  go_ret
  refine ⟨?_,(Below.refl _ _).alloc (Nat.le_refl _) _⟩
  rw [HY.out]
  refine bool_out ?_
  unfold PgOk
  simp [h0]
set_option maxRecDepth 100000 in
theorem pgRefRight_any (yes:Bool) (hy:yes=decide (PgOk a d)):Calls Tryz.prog 117 #[.agg #[.int .i64 a,.string d]] w fun e w'=>e=.returned (.bool yes)∧Below w.heap.size w w':=by
 have HY:=Lib.hid hy
 clear hy
 go_enter Tryz.func117,Tryz.ntmps117
 by_cases h0:(0:Int)≤a
 ·by_cases h1:a≤(2147483647:Int)
  all_goals
   go_wp2
   go_ret
   refine ⟨?_,(Below.refl _ _).alloc (Nat.le_refl _) _⟩
   rw [HY.out]
   refine bool_out ?_
   unfold PgOk Num
   simp
   try omega
 ·go_wp2
  go_ret
  refine ⟨?_,(Below.refl _ _).alloc (Nat.le_refl _) _⟩
  rw [HY.out]
  refine bool_out ?_
  unfold PgOk Num
  simp
  try omega
end
end Go.Proofs.YthkbcfhjmnpggaaGreat

namespace Go.Proofs.YthkbcfhjmnpggaaGreat
open Go.RowKit
theorem zeroP_run (w:World):(zeroValue 178).run Tryz.prog w=.ok (.agg (bytesV (List.replicate 224 0))) w:=by kernel_rfl
theorem bytesV_one (l:List UInt8):(bytesV l).all (·.oneCell')=true:=by simp [bytesV,Value.oneCell']
structure Laying (w W:World) (A:Nat) (d:ByteArray) (z l:List UInt8):Prop where
 below:Below w.heap.size w W
 box:Blk W w.heap.size 76 #[.int .i64 A,.string d]
 out:Blk W (w.heap.size+1) 178 (bytesV z)
 row:Blk W (w.heap.size+1+1) 178 (bytesV l)
namespace Laying
variable {w W W':World} {A:Nat} {d:ByteArray} {z l l':List UInt8}
theorem start:Laying w (((w.alloc (.cells #[.int .i64 A,.string d] 76)).alloc (.cells (bytesV z) 178)).alloc (.cells (bytesV z) 178)) A d z z:=by
 refine ⟨(((Below.refl _ _).alloc (Nat.le_refl _) _).alloc (by simp) _).alloc (by simp; omega) _,((Blk.new _ _ _).alloc _).alloc _,?_,?_⟩
 ·have h:=(Blk.new (w.alloc (.cells #[.int .i64 A,.string d] 76)) 178 (bytesV z)).alloc (.cells (bytesV z) 178)
  simp only [World.size_alloc] at h
  exact h
 ·have h:=Blk.new ((w.alloc (.cells #[.int .i64 A,.string d] 76)).alloc (.cells (bytesV z) 178)) 178 (bytesV z)
  simp only [World.size_alloc] at h
  exact h
theorem c0 (h:Laying w W A d z l):W.cell? ⟨w.heap.size,0,none⟩=some (.int .i64 A):=h.box.cellAt (by simp)
theorem c1 (h:Laying w W A d z l):W.cell? ⟨w.heap.size,1,none⟩=some (.string d):=h.box.cellAt (by simp)
theorem at_ (h:Laying w W A d z l) (i:Nat) (hi:i < l.length):∃ v,W.cell? ⟨w.heap.size+1+1,i,none⟩=some v:=⟨_,h.row.cellAt (by rw [bytesV_size]; exact hi)⟩
theorem drew (h:Laying w W A d z l):Laying w W.drew A d z l:=⟨h.below.drew,h.box,h.out,h.row⟩
theorem put (h:Laying w W A d z l) (i x:Nat) (v:Int) (hv:v=(x:Int) % 256):Laying w (W.setCell ⟨w.heap.size+1+1,i,none⟩ (.int .u8 v)) A d z (l.set i (UInt8.ofNat x)) :=
 ⟨h.below.setCell (by show w.heap.size≤w.heap.size+1+1; omega) _,h.box.far (by show w.heap.size≠w.heap.size+1+1; omega) _,h.out.far (by show w.heap.size+1≠w.heap.size+1+1; omega) _,h.row.setB i x v hv⟩
theorem copied (h:Laying w W A d z l) (l':List UInt8):Laying w (W.setRow (w.heap.size+1+1) (bytesV l')) A d z l' :=
 ⟨below_setRow h.below (by omega) _,h.box.farRow (by omega) _,h.out.farRow (by omega) _,h.row.setRow _⟩
end Laying
set_option maxRecDepth 100000 in
set_option maxHeartbeats 2000000 in
theorem pgLay_any (A:Nat) (d:ByteArray) (w:World) (hA:A≤2147483647) (hd:d.size=220) :
 Calls Tryz.prog 133 #[.agg #[.int .i64 A,.string d]] w fun e w'=>e=.returned (.agg (bytesV (be4 A++d.data.toList)))∧Below w.heap.size w w':=by
 have hz:=zeroP_run
 have L0:(List.replicate 224 (0:UInt8)).length=224:=by simp
 generalize List.replicate 224 (0:UInt8)=z at *
 have HA:=Lib.hid hA
 clear hA
 go_enter Tryz.func133,Tryz.ntmps133
 go_wp2
 have hp:=Laying.start (w:=w) (A:=A) (d:=d) (z:=z)
 generalize (((w.alloc (.cells #[.int .i64 A,.string d] 76)).alloc (.cells (bytesV z) 178)).alloc (.cells (bytesV z) 178))=w1 at *
 refine wp_loop_rounds 5 ?_
 rw [rounds_succ]
 have c:=hp.c0
 obtain ⟨v0,e0⟩:=hp.at_ 0 (by (try simp only [List.length_set]); omega)
 have f0:=hp.row.frozen 0
 go_wp2
 replace hp:=hp.put 0 (A / 16777216) ((A:Int) / 16777216 % 256) (by omega)
 clear c e0 f0
 generalize w1.setCell _ _=w2 at *
 rw [rounds_succ]
 have c:=hp.c0
 obtain ⟨v0,e0⟩:=hp.at_ 1 (by (try simp only [List.length_set]); omega)
 have f0:=hp.row.frozen 1
 go_wp2
 replace hp:=hp.put 1 (A / 65536) ((A:Int) / 65536 % 256) (by omega)
 clear c e0 f0
 generalize w2.setCell _ _=w3 at *
 rw [rounds_succ]
 have c:=hp.c0
 obtain ⟨v0,e0⟩:=hp.at_ 2 (by (try simp only [List.length_set]); omega)
 have f0:=hp.row.frozen 2
 go_wp2
 replace hp:=hp.put 2 (A / 256) ((A:Int) / 256 % 256) (by omega)
 clear c e0 f0
 generalize w3.setCell _ _=w4 at *
 rw [rounds_succ]
 have c:=hp.c0
 obtain ⟨v0,e0⟩:=hp.at_ 3 (by (try simp only [List.length_set]); omega)
 have f0:=hp.row.frozen 3
 go_wp2
 replace hp:=hp.put 3 (A) ((A:Int) % 256) (by omega)
 clear c e0 f0
 generalize w4.setCell _ _=w5 at *
 rw [rounds_succ]
 go_wp2
 have e4:(((z.set 0 (UInt8.ofNat (A / 16777216))).set 1 (UInt8.ofNat (A / 65536))).set 2 (UInt8.ofNat (A / 256))).set 3 (UInt8.ofNat A)=splice z 0 (be4 A):=by
  have:=set4 z 0 (UInt8.ofNat (A / 16777216)) (UInt8.ofNat (A / 65536)) (UInt8.ofNat (A / 256)) (UInt8.ofNat A) (by omega)
  simpa [be4] using this
 rw [e4] at hp
 clear e4
 have L1:(splice z 0 (be4 A)).length=224:=by rw [length_splice z 0 (be4 A) (by rw [be4_len]; omega)]; exact L0
 have eE:splice (splice z 0 (be4 A)) 4 d.data.toList=be4 A++d.data.toList:=by
  have hd':d.data.toList.length=220:=hd
  unfold splice
  rw [be4_len,hd']
  simp [be4,List.drop_eq_nil_of_le,L0]
 have c:=hp.c1
 go_still_tail 3,(by kernel_rfl)
 change wpList _ _ _ _ _ w5.drew
 replace hp:=hp.drew
 clear c
 generalize w5.drew=w6 at *
 have hcp:=Lib.run_copy_row_string (P:=Tryz.prog) w6 47 9 3 5 (w.heap.size+1+1) 4 220 220 d _ 178 Tryz.underlying47 info_u8 hp.row (by omega) (by rw [bytesV_size]; omega)
 rw [← size_bytes d,bytesV_splice,size_bytes d,eE] at hcp
 replace hp:=hp.copied (be4 A++d.data.toList)
 have F:∃ cs cz:Array Value,Hid (cs=bytesV (be4 A++d.data.toList))∧Hid (cz=bytesV z)∧Hid (cs.size=224∧cz.size=224∧cs.all (·.oneCell')=true):=by
  refine ⟨_,_,rfl,rfl,?_,?_,bytesV_one _⟩
  ·have hd':d.data.toList.length=220:=hd
   rw [bytesV_size]
   simp [be4_len,hd']
  · rw [bytesV_size]; exact L0
 obtain ⟨cs,cz,hcs,hcz,hF⟩:=F
 rw [← hcs.out] at hp hcp
 have R:=Lib.hid hp.row
 have O:=Lib.hid hp.out
 have B:=Lib.hid hp.below
 rw [← hcz.out] at O
 rw [← hcs.out] at R
 clear hp hz eE L0 L1 HA hcz
 go_upto_region 8 with fail
 obtain ⟨S1,S2,S3⟩:=hF.out
 replace R:=R.out
 replace O:=O.out
 replace B:=B.out
 generalize w6.setRow _ _=w7 at *
 go_wp2_with (first
  | (refine wpList_load_row rfl 178 _ rfl (w.heap.size+1+1) rfl 178 _ (0,0) _ R Tryz.underlying178 rfl (by rw [S1]; kernel_rfl) ?_)
  | (refine wpList_store_row rfl 178 _ _ rfl (w.heap.size+1) _ rfl rfl 178 _ O (by rw [S1]; kernel_rfl) (by rw [S1,S2]) S3 ?_))
 refine bodyPost_ret (results_cell_row rfl _ _ (w.heap.size+1) 178 _ (0,0) _ rfl (O.setRow _) Tryz.underlying178 rfl (by rw [S1]; kernel_rfl)) rfl ⟨?_,below_setRow B (by omega) _⟩
 rw [hcs.out]
end Go.Proofs.YthkbcfhjmnpggaaGreat

namespace Go.Proofs.YthkbcfhjmnpggaaGreat
open Go.RowKit
theorem Blk.byte {w:World} {g t:Nat} {l:List UInt8} (h:Blk w g t (bytesV l)) (i:Nat) (hi:i < l.length):w.cell? ⟨g,i,none⟩=some (.int .u8 (l.getD i 0).toNat):=by
 rw [h.cell]
 simp [bytesV,hi]
set_option maxRecDepth 100000 in
set_option maxHeartbeats 2000000 in
theorem page_any (L:List UInt8) (w:World) (hL:L.length=224) :
 Calls Tryz.prog 114 #[.agg (bytesV L)] w fun e w'=>e=.returned (.agg #[.int .i64 (num4 L:Nat),.string ⟨(L.drop 4).toArray⟩])∧Below w.heap.size w w':=by
 have S1:(bytesV L).size=224:=by rw [bytesV_size]; exact hL
 have B0:Blk ((w.alloc (.cells (bytesV L) 178)).alloc (.cells #[.int .i64 0,.string ⟨#[]⟩] 76)) w.heap.size 178 (bytesV L):=(Blk.new _ _ _).alloc _
 have R0:=Blk.new (w.alloc (.cells (bytesV L) 178)) 76 #[.int .i64 0,.string ⟨#[]⟩]
 simp only [World.size_alloc] at R0
 have c0:=B0.byte 0 (by omega)
 have c1:=B0.byte 1 (by omega)
 have c2:=B0.byte 2 (by omega)
 have c3:=B0.byte 3 (by omega)
 have hr:=Lib.hid (or_be ((L.getD 0 0).toNat) ((L.getD 1 0).toNat) ((L.getD 2 0).toNat) ((L.getD 3 0).toNat) (L.getD 0 0).toNat_lt (L.getD 1 0).toNat_lt (L.getD 2 0).toNat_lt (L.getD 3 0).toNat_lt)
 have b0:((L.getD 0 0).toNat:Int) < 256:=by have:=(L.getD 0 0).toNat_lt; omega
 have b1:((L.getD 1 0).toNat:Int) < 256:=by have:=(L.getD 1 0).toNat_lt; omega
 have b2:((L.getD 2 0).toNat:Int) < 256:=by have:=(L.getD 2 0).toNat_lt; omega
 have b3:((L.getD 3 0).toNat:Int) < 256:=by have:=(L.getD 3 0).toNat_lt; omega
 have hn:Hid (num4 L=(L.getD 0 0).toNat*16777216+(L.getD 1 0).toNat*65536+(L.getD 2 0).toNat*256+(L.getD 3 0).toNat):=rfl
 have hcv:=conv_blk B0 4 220 220 (by omega) 47 5 9 Tryz.underlying47 Tryz.underlying5 Tryz.underlying9
 rw [show List.take 220 (List.drop 4 L)=List.drop 4 L from List.take_of_length_le (by simp; omega)] at hcv
 have hS:=Lib.hid S1
 have hB:=Lib.hid (((Below.refl w.heap.size w).alloc (Nat.le_refl _) (.cells (bytesV L) 178)).alloc (by simp) (.cells #[.int .i64 0,.string ⟨#[]⟩] 76))
 generalize (L.getD 0 0).toNat=x0 at *
 generalize (L.getD 1 0).toNat=x1 at *
 generalize (L.getD 2 0).toNat=x2 at *
 generalize (L.getD 3 0).toNat=x3 at *
 generalize num4 L=n at *
 generalize bytesV L=cs at *
 clear S1 hL
 go_enter Tryz.func114,Tryz.ntmps114
 go_wp2
 generalize ((w.alloc (.cells cs 178)).alloc (.cells #[.int .i64 0,.string ⟨#[]⟩] 76))=w1 at *
 refine wp_loop_rounds 5 ?_
 iterate 4
  rw [rounds_succ]
  go_wp2
 rw [rounds_succ]
 go_wp2_with (refine wpList_store_row rfl 76 _ _ rfl (w.heap.size+1) _ rfl rfl 76 _ R0 (by kernel_rfl) (by simp) (by simp [Value.oneCell']) ?_)
 refine bodyPost_ret (results_cell_row rfl _ _ (w.heap.size+1) 76 _ (0,0) _ rfl (R0.setRow _) Tryz.underlying76 rfl (by kernel_rfl)) rfl ⟨?_,below_setRow hB.out (by omega) _⟩
 rw [hr.out,hn.out]
 congr 4
 rw [show wrap64 _=((x0*16777216+x1*65536+x2*256+x3:Nat):Int) from by unfold wrap64; omega]
def noughts:ByteArray:=⟨(List.replicate 220 0).toArray⟩
theorem num4_zero:num4 (List.replicate 224 0)=0:=by decide +kernel
set_option maxRecDepth 100000 in
set_option maxHeartbeats 2000000 in
theorem pgEmpty_any (w:World):Calls Tryz.prog 88 #[] w fun e w'=>e=.returned (.agg #[.int .i64 0,.string noughts])∧Below w.heap.size w w':=by
 have hz:=zeroP_run
 have hp:=Lib.hid (fun W=>page_any (List.replicate 224 0) W (by simp))
 have eD:Hid ((⟨(List.drop 4 (List.replicate 224 (0:UInt8))).toArray⟩:ByteArray)=noughts):=by show _=_; unfold noughts; rw [List.drop_replicate]
 have eN:=Lib.hid num4_zero
 generalize List.replicate 224 (0:UInt8)=z at *
 have R0:=Blk.new w 76 #[.int .i64 0,.string ⟨#[]⟩]
 go_enter Tryz.func88,Tryz.ntmps88
 go_wp2_with fail
 refine (hp.out _).mono ?_
 rintro e w1 ⟨rfl,hb⟩
 rw [eD.out,eN.out]
 have R1:=R0.keep hb R0.lt
 have hB:Below w.heap.size w w1:=((Below.refl _ _).alloc (Nat.le_refl _) _).trans (hb.mono (by simp))
 clear hp eD hz R0 hb
 go_wp2_with (refine wpList_store_row rfl 76 _ _ rfl w.heap.size _ rfl rfl 76 _ R1 (by kernel_rfl) (by simp) (by simp [Value.oneCell']) ?_)
 exact bodyPost_ret (results_cell_row rfl _ _ w.heap.size 76 _ (0,0) _ rfl (R1.setRow _) Tryz.underlying76 rfl (by kernel_rfl)) rfl ⟨rfl,below_setRow hB (Nat.le_refl _) _⟩
end Go.Proofs.YthkbcfhjmnpggaaGreat

namespace Go.Proofs.YthkbcfhjmnpggaaGreat
open Go.RowKit
def InPage (o n:Int):Prop:=0≤o∧0≤n∧o+n≤220
instance (o n:Int):Decidable (InPage o n):=inferInstanceAs (Decidable (_∧_))
def Chg (r:Rc):Prop:=r.kind=1∨r.kind=2
instance (r:Rc):Decidable (Chg r):=inferInstanceAs (Decidable (_∨_))
set_option maxRecDepth 100000 in
theorem pgFits_any (o n:Int) (w:World) (hn':(Lit.int .i64 n).wf=true) (yes:Bool) (hy:yes=decide (InPage o n)):Calls Tryz.prog 132 #[.int .i64 o,.int .i64 n] w fun e w'=>e=.returned (.bool yes)∧w=w':=by
 have HY:=Lib.hid hy
 clear hy
 have hw:0≤n→IntKind.i64.wrap (220 - n)=220 - n:=fun h=>by
  have h2:n≤9223372036854775807:=by
   simp [Lit.wf,IntKind.min,IntKind.max,IntKind.signed,IntKind.bits] at hn'; omega
  rw [IntKind.wrap_i64]; omega
 clear hn'
 go_enter Tryz.func132,Tryz.ntmps132
 by_cases h0:(0:Int)≤o
 ·by_cases h1:(0:Int)≤n
  ·replace hw:=hw h1
   go_wp2
   go_ret
   refine ⟨?_,rfl⟩
   rw [HY.out]
   refine bool_out ?_
   unfold InPage
   simp
   try omega
  ·clear hw
   go_wp2
   go_ret
   refine ⟨?_,rfl⟩
   rw [HY.out]
   refine bool_out ?_
   unfold InPage
   simp
   try omega
 ·clear hw
  go_wp2
  all_goals
   go_ret
   refine ⟨?_,rfl⟩
   rw [HY.out]
   refine bool_out ?_
   unfold InPage
   simp
   try omega
set_option maxRecDepth 100000 in
theorem pgChanges_any {w:World} {v:Value} {r:Rc} (hv:IsRec w v r) (yes:Bool) (hy:yes=decide (Chg r)):Calls Tryz.prog 126 #[v] w fun e w'=>e=.returned (.bool yes)∧Below w.heap.size w w':=by
 obtain ⟨vt,vp,rfl,hl⟩:=hv
 obtain ⟨ta,tc,e⟩:=hl.t.form
 subst e
 obtain ⟨pa,pc,e⟩:=hl.p.form
 subst e
 have HY:=Lib.hid hy
 clear hy hl
 unfold recV recCells
 go_enter Tryz.func126,Tryz.ntmps126
 by_cases h0:r.kind=1
 all_goals
  go_wp2
  go_ret
  refine ⟨?_,(Below.refl _ _).alloc (Nat.le_refl _) _⟩
  rw [HY.out]
  refine bool_out ?_
  unfold Chg
  simp [h0]
end Go.Proofs.YthkbcfhjmnpggaaGreat
