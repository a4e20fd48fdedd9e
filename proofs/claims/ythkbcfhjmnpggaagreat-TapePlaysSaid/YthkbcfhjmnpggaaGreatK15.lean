/- Texts that belong together, joined: WalH, TaB, TaC, WalC. -/
import Derived.Test.YthkbcfhjmnpggaaGreatK14
import Derived.Test.YthkbcfhjmnpggaaGreatK00
import Derived.Test.YthkbcfhjmnpggaaGreatK04
import Derived.Test.YthkbcfhjmnpggaaGreatK05
import Derived.Test.YthkbcfhjmnpggaaGreatK01
import Derived.Test.YthkbcfhjmnpggaaGreatK10
import Derived.Test.YthkbcfhjmnpggaaGreatK09
namespace Go.Proofs.YthkbcfhjmnpggaaGreat
open Go.RowKit
def Qe.moved (x:Qe) (a:Int):Qe:=⟨a,x.r,x.vt,x.vp⟩
def Qe.shift (d:Int) (x:Qe):Qe:=x.moved (x.at_+d)
theorem entsV_set:∀ (q:List Qe) (j:Nat) (h:j < q.length) (a:Int),(entsV q).set (j*12) (.int .i64 a)=entsV (q.set j (q[j].moved a))
 | [],j,h,_=>by simp at h
 | x::q,0,_,a=>rfl
 | x::q,j+1,h,a=>by
   show (x.cells++entsV q).set ((j+1)*12) _=x.cells++entsV (q.set j ((q[j]'(by simpa using h)).moved a))
   rw [← entsV_set q j (by simpa using h) a,List.set_append_right _ _ (by rw [Qe.cells_len]; omega),Qe.cells_len,show (j+1)*12 - 12=j*12 by omega]
theorem OwnE.stored {w:World} {B g n cap:Nat} {q:List Qe} (h:OwnE w B (.slice (some ⟨g,0,none⟩) n cap) q) (hn:n=q.length) (j:Nat) (hj:j < q.length) (a:Int) :
 OwnE (w.setCell ⟨g,j*12,none⟩ (.int .i64 a)) B (.slice (some ⟨g,0,none⟩) n cap) (q.set j (q[j].moved a)):=by
 subst hn
 have ho:=(h.own.stored (j*12) (.int .i64 a)).1
 rw [entsV_set q j hj a] at ho
 have hon:Only (· = g) w (w.setCell ⟨g,j*12,none⟩ (.int .i64 a)):=(Only.refl (· = g) w).set (p:=⟨g,j*12,none⟩) (.inl rfl) _
 have hall:∀ y ∈ q.set j (q[j].moved a),Lists w y.r y.vt y.vp∧Apart (.slice (some ⟨g,0,none⟩) q.length cap) y:=fun y hy=>by
  rcases List.mem_or_eq_of_mem_set hy with hy | rfl
  · exact ⟨h.lists y hy,h.apart y hy⟩
  · exact ⟨h.lists q[j] (List.getElem_mem hj),h.apart q[j] (List.getElem_mem hj)⟩
 refine ⟨?_,fun y hy=>?_,fun y hy=>(hall y hy).2⟩
 · rw [List.length_set]; exact ho
 ·obtain ⟨hl,ha⟩:=hall y hy
  exact hl.keepA hon (fun hr b hb e=>by subst e; exact (ha b rfl).1 hr hb) (fun hr b hb e=>by subst e; exact (ha b rfl).2 hr hb)
def Qe.part (d:Int) (q:List Qe) (j:Nat):List Qe:=(q.take j).map (Qe.shift d)++q.drop j
theorem part_len (d:Int) (q:List Qe) (j:Nat) (h:j≤q.length):(Qe.part d q j).length=q.length:=by unfold Qe.part; simp; omega
theorem part_all (d:Int) (q:List Qe):Qe.part d q q.length=q.map (Qe.shift d):=by unfold Qe.part; simp
theorem part_split (d:Int) (q:List Qe) (j:Nat) (h:j < q.length):Qe.part d q j=(q.take j).map (Qe.shift d)++(q[j]::q.drop (j+1)):=by unfold Qe.part; rw [List.drop_eq_getElem_cons h]
theorem part_next (d:Int) (q:List Qe) (j:Nat) (h:j < q.length):(Qe.part d q j).set j (Qe.shift d q[j])=Qe.part d q (j+1):=by
 have hl:((q.take j).map (Qe.shift d)).length=j:=by simp; omega
 rw [part_split d q j h,List.set_append_right _ _ (by omega),hl,Nat.sub_self,List.set_cons_zero]
 unfold Qe.part
 rw [List.take_succ_eq_append_getElem h,List.map_append,List.append_assoc]
 rfl
theorem part_at (d:Int) (q:List Qe) (j:Nat) (h:j < q.length) (h':j < (Qe.part d q j).length):(Qe.part d q j)[j]=q[j]:=by
 have hl:((q.take j).map (Qe.shift d)).length=j:=by simp; omega
 have:(Qe.part d q j)[j]? = some q[j]:=by
  rw [part_split d q j h,List.getElem?_append_right (by omega),hl,Nat.sub_self]
  rfl
 rw [List.getElem?_eq_getElem h'] at this
 exact Option.some.inj this
theorem shift_ents (d:Int) (q:List Qe):(q.map (Qe.shift d)).map Qe.ent=(q.map Qe.ent).map fun x=>(x.1+d,x.2):=by
 rw [List.map_map,List.map_map]
 rfl
theorem body_count:∀ (rs:List Rc) (_:∀ r ∈ rs,May r),rs.length≤(body rs).length
 | [],_=>Nat.zero_le _
 | r::rs,h=>by
   have:=body_count rs fun q hq=>h q (by simp [hq])
   have hp:=lay_pos (h r (by simp))
   simp only [body,List.flatMap_cons,List.length_append,List.length_cons] at *
   omega
theorem entsOf_len:∀ (a:Int) (rs:List Rc),(entsOf a rs).length=rs.length
 | _,[]=>rfl
 | a,r::rs=>by show (entsOf _ rs).length+1=_; rw [entsOf_len]; rfl
def Wl.entries (l:Wl) (k:Int):List Ent:=if l.low≤k∧k < l.end_ then entsOf (k*128) (l.secs.getD (k.toNat - l.low) []) else []
def EntsOut (w:World) (es:List Ent) (e:Ending) (w':World):Prop:=∃ v q,e=.returned v∧q.map Qe.ent=es∧OwnE w' w.heap.size v q∧Below w.heap.size w w'∧FreshQ w.heap.size q
theorem FreshQ.base {B B':Nat} {q:List Qe} (h:FreshQ B q) (hb:B'≤B):FreshQ B' q:=fun x hx=>⟨fun hr b hv=>Nat.le_trans hb ((h x hx).1 hr b hv),fun hr b hv=>Nat.le_trans hb ((h x hx).2 hr b hv)⟩
theorem FreshQ.shift {B:Nat} {q:List Qe} (h:FreshQ B q) (d:Int):FreshQ B (q.map (Qe.shift d)):=fun x hx=>by
 obtain ⟨y,hy,rfl⟩:=List.mem_map.1 hx
 exact h y hy
def Yield.own (B:Nat) (es:List Ent):Yield:=⟨none,fun (v:Value) (w:World)=>∃ q:List Qe,q.map Qe.ent=es∧OwnE w B v q∧FreshQ B q,fun _ _ _ hb h=>h.elim fun q h=>⟨q,h.1,h.2.1.keep hb,h.2.2⟩,fun _ h=>by cases h⟩
def Yield.outs (B:Nat) (es:List Ent) (c:Int):Yield:=⟨none,fun (x:Value) (w:World)=>∃ (v:Value) (q:List Qe),x=.tuple #[v,.int .i64 c]∧q.map Qe.ent=es∧OwnE w B v q∧FreshQ B q,fun _ _ _ hb h=>h.elim fun v h=>h.elim fun q h=>⟨v,q,h.1,h.2.1,h.2.2.1.keep hb,h.2.2.2⟩,fun _ h=>by cases h⟩
theorem own_base_to {w:World} {B B' size n:Nat} {e:TypeId} {v:Value} {xs:List Value} (h:w.ownsRow B e size v n xs) (hb:B'≤B):w.ownsRow B' e size v n xs:=by
 obtain ⟨hl,h | ⟨g,cap,cur,rfl,h1,h2⟩⟩:=h
 · exact ⟨hl,.inl h⟩
 · exact ⟨hl,.inr ⟨g,cap,cur,rfl,Nat.le_trans hb h1,h2⟩⟩
theorem OwnE.base {w:World} {B B':Nat} {v:Value} {q:List Qe} (h:OwnE w B v q) (hb:B'≤B):OwnE w B' v q:=⟨own_base_to h.own hb,h.lists,h.apart⟩
section
variable {w:World} {F:Foot} {g gd:Nat} {l:Wl}
set_option maxRecDepth 100000 in
set_option maxHeartbeats 2000000 in
theorem entries_out (h:IsLog w F g gd l) (k:Int) (hk:¬ (l.low≤k∧k < l.end_)):Calls Tryz.prog 108 #[.pointer (some ⟨g,0,none⟩),.int .i64 k] w (EntsOut w []):=by
 have H1:=Lib.hid (end_any h)
 have c4:=h.zero.cells.2.2.2
 have hlo:(0:Int)≤l.low:=by omega
 clear h
 by_cases h1:k < l.low
 ·clear hk
  go_enter Tryz.func108,Tryz.ntmps108
  go_wp2_with fail
  go_ret
  exact ⟨_,[],rfl,rfl,OwnE.nil _ _,Below.refl _ _,FreshQ.nil _⟩
 ·have h2:(l.end_:Int)≤k:=by omega
  clear hk
  generalize l.end_=x at *
  go_enter Tryz.func108,Tryz.ntmps108
  go_wp2_with fail
  refine H1.out.mono ?_
  rintro e w1 ⟨rfl,n,rfl⟩
  go_wp2
  go_ret
  exact ⟨_,[],rfl,rfl,OwnE.nil _ _,drewN_below w n,FreshQ.nil _⟩
set_option maxRecDepth 100000 in
set_option maxHeartbeats 8000000 in
theorem entries_in (h:IsLog w F g gd l) (k:Nat) (h1:l.low≤k) (h2:k < l.end_):Calls Tryz.prog 108 #[.pointer (some ⟨g,0,none⟩),.int .i64 k] w (EntsOut w (entsOf ((k*128:Nat):Int) (l.secs.getD (k - l.low) []))):=by
 have H1:=Lib.hid (end_any h)
 have HLOG:=Lib.hid h
 obtain ⟨ok,vb,r⟩:=h
 have hlm:=ok.lm
 have h64:=ok.s64
 have hlen:=ok.len
 have hkl:k - l.low < l.secs.length:=by unfold Wl.end_ at h2; omega
 have hmem:l.secs.getD (k - l.low) [] ∈ l.secs:=by
  rw [List.getD_eq_getElem?_getD,List.getElem?_eq_getElem hkl]
  exact List.getElem_mem hkl
 obtain ⟨_,hmay,h112⟩:=ok.sec _ hmem
 obtain ⟨g2,cap,rfl,hcap,hcm⟩:=own_form r.rows (by omega)
 have cl:w.cell? ⟨g2,k - l.low,none⟩=some (.string (bodyS (l.secs.getD (k - l.low) []))):=by
  rw [r.rows.cellAt _ (by omega)]
  simp only [strsV,List.map_map,List.getElem?_map]
  rw [List.getD_eq_getElem?_getD,List.getElem?_eq_getElem hkl]
  rfl
 have hg2:g2 < w.heap.size:=(r.rows.lt g2 rfl).2
 have CELLS:Hid (∀ W,Below w.heap.size w W→W.cell? ⟨g,4,none⟩=some (.int .i64 l.low)∧W.cell? ⟨g,6,none⟩=some (.slice (some ⟨g2,0,none⟩) l.secs.length cap)∧W.cell? ⟨g2,k - l.low,none⟩=some (.string (bodyS (l.secs.getD (k - l.low) [])))) :=
  fun W hW=>⟨(r.below hW).cells.2.2.2.2.1,(r.below hW).cells.2.2.2.2.2.2,(hW.cell (p:=⟨g2,k - l.low,none⟩) hg2).trans cl⟩
 have AL:Hid (∀ W,Calls Tryz.prog 85 #[.string (bodyS (l.secs.getD (k - l.low) []))] W (AllOut W (some (entsOf 0 (l.secs.getD (k - l.low) []))))):=fun W=>by
  have:=all_any (bodyS (l.secs.getD (k - l.low) [])) W (by rw [bodyS_size]; omega)
  rwa [show allS (bodyS (l.secs.getD (k - l.low) []))=some (entsOf 0 (l.secs.getD (k - l.low) [])) from allS_body hmay] at this
 have c4:=r.cells.2.2.2.2.1
 have hki:¬ (k:Int) < l.low:=by omega
 have hke:(k:Int) < l.end_:=by omega
 have hidx:(k:Int) - (l.low:Int) < l.secs.length:=by omega
 have hidx0:(0:Int)≤(k:Int) - (l.low:Int):=by omega
 have htn:((k:Int) - (l.low:Int)).toNat=k - l.low:=by omega
 have hkb:(k:Int)≤2147483711:=by unfold Wl.end_ at h2; omega
 have hbl:(entsOf 0 (l.secs.getD (k - l.low) [])).length≤112:=by
  rw [entsOf_len]
  exact Nat.le_trans (body_count _ hmay) h112
 have HBD:Hid (∀ x ∈ entsOf 0 (l.secs.getD (k - l.low) []),0≤x.1∧x.1≤112):=fun x hx=>by
  have:=entsOf_ge 0 _ hmay x hx
  have h112':((l.secs.getD (k - l.low) []).flatMap lay).length≤112:=h112
  omega
 clear hkl hmem hmay h112 hcap hcm cl hg2 ok r hlm h64 hlen h1 h2
 generalize l.secs.getD (k - l.low) []=rs at *
 generalize bodyS rs=b at *
 generalize l.end_=x at *
 have hd:decide (x≤k)=false:=by simp; omega
 go_enter Tryz.func108,Tryz.ntmps108
 go_wp2_with fail
 refine H1.out.mono ?_
 rintro e w1 ⟨rfl,n,rfl⟩
 have HB1:=Lib.hid (drewN_below w n)
 go_wp2_with fail
 generalize w.drewN n=w2 at *
 clear c4
 refine' wp_region_conf 18 (.is _::.is _::.is _::.is _::.is _::.is _::.is _::.is _::.is _::.is _::.is _::.is _::.outs w.heap.size (entsOf 0 rs) 0::.outs w.heap.size (entsOf 0 rs) 0::.own w.heap.size (entsOf 0 rs)::.is (.int .i64 0)::.own w.heap.size (entsOf 0 rs)::.is (.int .i64 0)::[]) (by kernel_rfl) (by kernel_rfl) (by kernel_rfl) (by kernel_rfl) rfl ?main
 case main =>
  iterate 12
   refine obs_is (fun w4 hE4 _=>?_) ?_
   ·obtain ⟨d4,d6,db⟩:=CELLS.out w4 (HB1.out.trans (((Below.refl w2.heap.size w2).drew.trans hE4).mono HB1.out.size))
    go_wp2
    exact post_is (Below.refl _ _)
   simp only [Act.put,sA,sB,sC]
  refine ⟨fun w4 hE4 _=>?_,fun x1=>?_⟩
  ·have hs4:w.heap.size≤w4.heap.size:=(HB1.out.trans (((Below.refl w2.heap.size w2).drew.trans hE4).mono HB1.out.size)).size
   clear hE4
   go_wp2_with fail
   refine (AL.out _).mono ?_
   rintro e w5 ⟨v5,q5,rfl,hq5,ho5,hb5,hf5⟩
   have HH:Hid (∃ (v:Value) (q:List Qe),Value.tuple #[v5,.int .i64 (allCode (some (entsOf 0 rs)))]=.tuple #[v,.int .i64 0]∧q.map Qe.ent=entsOf 0 rs∧OwnE w5 w.heap.size v q∧FreshQ w.heap.size q):=⟨v5,q5,rfl,hq5,ho5.base hs4,hf5.base hs4⟩
   have HBB:=Lib.hid hb5
   clear hq5 ho5 hb5 hf5
   go_wp2
   refine ⟨.tuple #[v5,.int .i64 (allCode (some (entsOf 0 rs)))],?_,HH.out,HBB.out⟩
   simp only [Act.put,sA,sB,sC]
  simp only [Act.put,sA,sB,sC]
  refine ⟨fun w4 hE4 hk=>?_,fun x2=>?_⟩
  ·obtain ⟨v5,q5,rfl,hq5,ho5,hf5⟩:=hk _ (List.mem_cons_self) (by kernel_rfl)
   have HH:Hid (∃ v q,Value.tuple #[v5,.int .i64 0]=.tuple #[v,.int .i64 0]∧q.map Qe.ent=entsOf 0 rs∧OwnE w4 w.heap.size v q∧FreshQ w.heap.size q):=⟨v5,q5,rfl,hq5,ho5,hf5⟩
   clear hq5 ho5 hf5 hk hE4
   go_wp2
   refine ⟨(.tuple #[v5,.int .i64 0]),?_,HH.out,Below.refl _ _⟩
   simp only [Act.put,sA,sB,sC]
  simp only [Act.put,sA,sB,sC]
  refine ⟨fun w4 hE4 hk=>?_,fun x3=>?_⟩
  ·obtain ⟨v5,q5,rfl,hq5,ho5,hf5⟩:=hk _ (List.mem_cons_self) (by kernel_rfl)
   have HH:Hid (∃ q,q.map Qe.ent=entsOf 0 rs∧OwnE w4 w.heap.size v5 q∧FreshQ w.heap.size q):=⟨q5,hq5,ho5,hf5⟩
   clear hq5 ho5 hf5 hk hE4
   go_wp2
   refine ⟨v5,?_,HH.out,Below.refl _ _⟩
   simp only [Act.put,sA,sB,sC]
  simp only [Act.put,sA,sB,sC]
  refine obs_is (fun w4 hE4 hk=>?_) ?_
  ·obtain ⟨v5,q5,rfl,hq5,ho5,hf5⟩:=hk _ (List.mem_cons_of_mem _ (List.mem_cons_self)) (by kernel_rfl)
   clear hq5 ho5 hf5 hk hE4
   go_wp2
   exact post_is (Below.refl _ _)
  simp only [Act.put,sA,sB,sC]
  refine ⟨fun w4 hE4 hk=>?_,fun x4=>?_⟩
  ·obtain ⟨q5,hq5,ho5,hf5⟩:=hk _ (List.mem_cons_self) (by kernel_rfl)
   have HH:Hid (∃ q,q.map Qe.ent=entsOf 0 rs∧OwnE w4 w.heap.size x3 q∧FreshQ w.heap.size q):=⟨q5,hq5,ho5,hf5⟩
   clear hq5 ho5 hf5 hk hE4
   go_wp2
   refine ⟨x3,?_,HH.out,Below.refl _ _⟩
   simp only [Act.put,sA,sB,sC]
  simp only [Act.put,sA,sB,sC]
  refine obs_is (fun w4 hE4 hk=>?_) ?_
  ·clear hk hE4
   go_wp2
   exact post_is (Below.refl _ _)
  simp only [Act.put,sA,sB,sC]
  refine obs_end fun w4 hE4 hk=>?_
  obtain ⟨q,hq,ho4,hfq⟩:=hk _ (List.mem_cons_self)
  have HB4:=Lib.hid (HB1.out.trans (((Below.refl w2.heap.size w2).drew.trans hE4).mono HB1.out.size))
  have hql:q.length≤112:=by rw [← hq,List.length_map] at hbl; exact hbl
  have HQ:=Lib.hid hq
  have HFQ:=Lib.hid hfq
  clear hfq
  clear hq hk hE4 HB1 CELLS AL H1 hbl
  change wpList _ _ _ _ _ _
  have ho:OwnE w4 w.heap.size x4 q:=ho4
  have HQB:Hid (∀ x ∈ q,0≤x.at_∧x.at_≤112):=fun x hx=>HBD.out x.ent (by rw [← HQ.out]; exact List.mem_map_of_mem hx)
  clear ho4 HBD
  rcases own_any ho.own with ⟨rfl,h0,_⟩ | ⟨gg,cp,rfl,hc1,hc2⟩
  ·have hqn:q = []:=List.eq_nil_of_length_eq_zero h0
   subst hqn
   have HO:=Lib.hid ho
   have hnil:entsOf ((k*128:Nat):Int) rs = []:=by
    have:=HQ.out
    have e:rs = []:=by
     have h2:=congrArg List.length this
     rw [entsOf_len] at h2
     exact List.eq_nil_of_length_eq_zero h2.symm
    rw [e]; rfl
   have HN:=Lib.hid hnil
   clear ho h0 hnil hql HQ HQB
   go_wp2_with fail
   refine wp_loop_rounds 1 ?_
   rw [rounds_succ]
   go_wp2
   go_ret
   exact ⟨_,[],rfl,by rw [HN.out]; rfl,HO.out,HB4.out,FreshQ.nil _⟩
  ·have HO:Hid (OwnE w4 w.heap.size (.slice (some ⟨gg,0,none⟩) q.length cp) (Qe.part ((k:Int)*128) q 0)):=ho
   have hqi:(q.length:Int)≤112:=by omega
   clear ho hc1 hc2
   go_wp2_with fail
   go_loopw [38] (fun vj wr=>∃ j:Nat,vj=.int .i64 j∧j≤q.length∧OwnE wr w.heap.size (.slice (some ⟨gg,0,none⟩) q.length cp) (Qe.part ((k:Int)*128) q j)∧Below w.heap.size w wr) (fun vj _=>q.length - (intOf vj).toNat)
   case atStart=>exact ⟨0,rfl,Nat.zero_le _,HO.out,HB4.out⟩
   case round =>
    obtain ⟨j,rfl,hj,hoj,hB⟩:=hrel
    clear HO HB4
    by_cases hlt:j < q.length
    ·have hl2:j < (Qe.part ((k:Int)*128) q j).length:=by rw [part_len _ _ _ hj]; exact hlt
     have hat:=part_at ((k:Int)*128) q j hlt hl2
     have hown:=hoj.own
     rw [part_len _ _ _ hj] at hown
     have hcell:=hown.cellAt (j*12+0) (by omega)
     rw [entsV_at _ j hl2 0 (by omega),hat,Nat.add_zero] at hcell
     have hcell':wr.cell? ⟨gg,j*12,none⟩=some (.int .i64 q[j].at_):=hcell
     have hfr:=hown.frozenAt (j*12)
     have hb0:=(HQB.out q[j] (List.getElem_mem hlt)).1
     have hb1:=(HQB.out q[j] (List.getElem_mem hlt)).2
     have hs:=hoj.stored (part_len _ _ _ hj).symm j hl2 (q[j].at_+(k:Int)*128)
     rw [hat,show q[j].moved (q[j].at_+(k:Int)*128)=Qe.shift ((k:Int)*128) q[j] from rfl,part_next _ _ _ hlt] at hs
     have HS:=Lib.hid hs
     have HB:=Lib.hid (hB.setCell (p:=⟨gg,j*12,none⟩) (hoj.own.lt gg rfl).1 (.int .i64 (q[j].at_+(k:Int)*128)))
     have hji:(j:Int) < q.length:=by omega
     clear hown hcell hs hB hoj hat hl2
     generalize q[j].at_=z at *
     go_wp2
     go_roundw
     case rel=>exact ⟨j+1,by go_num,by omega,HS.out,HB.out⟩
     case measure=>simp [intOf]; omega
    ·obtain rfl:j=q.length:=by omega
     rw [part_all] at hoj
     have HO:=Lib.hid hoj
     have HB:=Lib.hid hB
     clear hoj hB
     go_wp2
     go_ret
     refine ⟨_,_,rfl,?_,HO.out,HB.out,HFQ.out.shift _⟩
     rw [shift_ents,HQ.out,entsOf_shift]
     congr 1
     omega
theorem entries_any (h:IsLog w F g gd l) (k:Int):Calls Tryz.prog 108 #[.pointer (some ⟨g,0,none⟩),.int .i64 k] w (EntsOut w (l.entries k)):=by
 unfold Wl.entries
 by_cases hk:l.low≤k∧k < l.end_
 ·rw [if_pos hk]
  obtain ⟨k',rfl⟩:=Int.eq_ofNat_of_zero_le (show 0≤k by omega)
  have:=entries_in h k' (by omega) (by omega)
  rw [Int.toNat_natCast]
  rw [Int.natCast_mul] at this
  exact this
 ·rw [if_neg hk]
  exact entries_out h k hk
end
end Go.Proofs.YthkbcfhjmnpggaaGreat

namespace Go.Proofs.YthkbcfhjmnpggaaGreat
open Go.RowKit
def Qe.rows (x:Qe) (vt vp:Value):Qe:=⟨x.at_,x.r,vt,vp⟩
theorem entsV_rows:∀ (q:List Qe) (j:Nat) (h:j < q.length) (vt vp:Value),((entsV q).set (j*12+10) vt).set (j*12+11) vp=entsV (q.set j (q[j].rows vt vp))
 | [],j,h,_,_=>by simp at h
 | x::q,0,_,vt,vp=>rfl
 | x::q,j+1,h,vt,vp=>by
   show ((x.cells++entsV q).set ((j+1)*12+10) vt).set ((j+1)*12+11) vp=x.cells++entsV (q.set j ((q[j]'(by simpa using h)).rows vt vp))
   rw [← entsV_rows q j (by simpa using h) vt vp,List.set_append_right _ _ (by rw [Qe.cells_len]; omega),List.set_append_right _ _ (by rw [Qe.cells_len]; omega),Qe.cells_len,show (j+1)*12+10 - 12=j*12+10 by omega,show (j+1)*12+11 - 12=j*12+11 by omega]
theorem entsV_one (q:List Qe) (h:∀ x ∈ q,∃ w,Lists w x.r x.vt x.vp):∀ v ∈ entsV q,v.oneCell' = true:=fun v hv=>by
 obtain ⟨x,hx,hm⟩:=List.mem_flatMap.1 hv
 obtain ⟨w,hl⟩:=h x hx
 unfold Qe.cells at hm
 rcases List.mem_cons.1 hm with rfl | hm
 · rfl
 ·have:=hl.one
  rw [Array.all_eq_true'] at this
  exact this v (by simpa using hm)
theorem ta_info:(Tryz.prog.info? 108).map (fun i=>(i.zero,i.size,i.bytes))=some (some (.agg #[.int .i64 0,.int .i64 0,.int .i64 0,.int .i64 0,.int .i64 0,.int .i64 0,.int .i64 0,.int .i64 0,.string ⟨#[]⟩,.string ⟨#[]⟩,.slice none 0 0,.slice none 0 0]),12,144):=by kernel_rfl
theorem ta_info1:(Tryz.prog.info? 108).map (·.size)=some 12:=by kernel_rfl
theorem taMk (c:Nat) (hc:c≤100000000) (W:World):∃ M:Array Value,M.size=c*12∧(Instr.makeSlice 40 (.int .i64 c) (.int .i64 c)).run Tryz.prog W=.ok (.slice (some ⟨W.heap.size,0,none⟩) c c) (W.alloc (.cells M 108)):=by
 obtain ⟨i,hi,he⟩:=Option.map_eq_some_iff.1 ta_info
 simp only [Prod.mk.injEq] at he
 obtain ⟨hz0,hz1,hz2⟩:=he
 have h:=run_make (P:=Tryz.prog) W 40 108 i _ Tryz.underlying40 hi hz0 .i64 .i64 c c (by omega) (by omega) (by rw [hz2]; omega) (by omega)
 refine ⟨_,?_,by simpa using h⟩
 rw [size_madeCells,hz1]
structure SrcE (w:World) (v:Value) (q:List Qe):Prop where
 cells:Elems w v q.length (entsV q)
 lists:∀ x ∈ q,Lists w x.r x.vt x.vp
theorem OwnE.src {w:World} {B:Nat} {v:Value} {q:List Qe} (h:OwnE w B v q):SrcE w v q:=⟨Elems.ofOwn h.own,h.lists⟩
theorem SrcE.keep {w w':World} {v:Value} {q:List Qe} (h:SrcE w v q) (hb:Below w.heap.size w w'):SrcE w' v q:=⟨h.cells.keep hb,fun x hx=>(h.lists x hx).keep hb⟩
theorem entsV_ne {q:List Qe} (h:0 < q.length):entsV q≠[]:=fun e=>by
 have:=entsV_len q
 rw [e] at this
 simp at this
 omega
theorem taCopy (w:World) (g:Nat) (cur:Array Value) (v:Value) (q:List Qe) (hv:SrcE w v q) (hg:Blk w g 108 cur) (hc:cur.size=q.length*12) :
 (Builtin.copy_ #[40,40] 3 #[.slice (some ⟨g,0,none⟩) q.length q.length,v]).run Tryz.prog w=.ok (.int .i64 q.length) (w.setRow g (entsV q).toArray):=by
 by_cases hl:0 < q.length
 ·obtain ⟨b,off,cap,rfl,_,_,_,hcell⟩:=Elems.cases hv.cells (entsV_ne hl)
  exact run_copy_wide w _ _ _ _ 12 g q.length ⟨b,off,none⟩ cap cur _ (entsV q) Tryz.underlying40 ta_info1 hg (entsV_len q) (fun j x hx=>by
   rw [show ((⟨b,off,none⟩:Addr).add j)=⟨b,off+j,none⟩ from by unfold Addr.add; split <;> simp_all]
   exact hcell j x hx) (by rw [hc,entsV_len]) (entsV_one q fun x hx=>⟨w,hv.lists x hx⟩)
 ·obtain rfl:q = []:=List.eq_nil_of_length_eq_zero (by omega)
  obtain ⟨a,cap,rfl⟩:=hv.cells.form
  have e:cur=#[]:=Array.eq_empty_of_size_eq_zero (by simpa using hc)
  subst e
  have h2:=run_copy_wide_none (P:=Tryz.prog) w 40 40 3 _ 12 (some ⟨g,0,none⟩) a 0 cap Tryz.underlying40 ta_info1
  have e2:w.setRow g (entsV []).toArray=w:=setRow_self w g #[] _ (0,0) hg
  rw [e2]
  exact h2
def FreshX (B:Nat) (x:Qe):Prop:=(rows3 x.r.txns≠[]→∀ b,x.vt.ownBlock=some b→B≤b)∧(rows2 x.r.pages≠[]→∀ b,x.vp.ownBlock=some b→B≤b)
structure CopyAt (w wr:World) (g:Nat) (q qk:List Qe) (k:Nat):Prop where
 below:Below w.heap.size w wr
 blk:Blk wr g 108 (entsV qk).toArray
 len:qk.length=q.length
 ents:qk.map Qe.ent=q.map Qe.ent
 lists:∀ x ∈ qk,Lists wr x.r x.vt x.vp
 apart:∀ x ∈ qk,(rows3 x.r.txns≠[]→x.vt.ownBlock≠some g)∧(rows2 x.r.pages≠[]→x.vp.ownBlock≠some g)
 fresh:∀ j (hj:j < qk.length),j < k→FreshX w.heap.size qk[j]
namespace CopyAt
variable {w wr w':World} {g:Nat} {q qk:List Qe} {k:Nat}
theorem more (h:CopyAt w wr g q qk k) (hb:Below wr.heap.size wr w'):CopyAt w w' g q qk k :=
 ⟨below2 h.below hb,h.blk.keep hb h.blk.lt,h.len,h.ents,fun x hx=>(h.lists x hx).keep hb,h.apart,h.fresh⟩
theorem same_at {qk q:List Qe} (he:qk.map Qe.ent=q.map Qe.ent) {x:Qe} {k:Nat} (hk:k < qk.length) (hx:x.ent=qk[k].ent):(qk.set k x).map Qe.ent=q.map Qe.ent:=by
 rw [← he,List.map_set,hx]
 have:(qk.map Qe.ent)[k]'(by simpa using hk)=qk[k].ent:=by simp
 rw [← this,List.set_getElem_self]
theorem next (h:CopyAt w wr g q qk k) (hk:k < qk.length) {vt vp:Value} (hs:Spare (· = g) wr w') (hB:Blk w' g 108 (((entsV qk).set (k*12+10) vt).set (k*12+11) vp).toArray)
 (hl:Lists w' qk[k].r vt vp) (ht:∀ b,vt.ownBlock=some b→w.heap.size≤b∧b≠g) (hp:∀ b,vp.ownBlock=some b→w.heap.size≤b∧b≠g) (hg:w.heap.size≤g):CopyAt w w' g q (qk.set k (qk[k].rows vt vp)) (k+1):=by
 have ho:Only (· = g) wr w':=⟨hs.os,hs.tape,hs.output,hs.size,hs.block⟩
 have hap:∀ x ∈ qk.set k (qk[k].rows vt vp),(rows3 x.r.txns≠[]→x.vt.ownBlock≠some g)∧(rows2 x.r.pages≠[]→x.vp.ownBlock≠some g):=fun x hx=>by
  rcases List.mem_or_eq_of_mem_set hx with hx | rfl
  · exact h.apart x hx
  · exact ⟨fun _ e=>(ht g e).2 rfl,fun _ e=>(hp g e).2 rfl⟩
 refine ⟨hs.below h.below (fun b e=>by subst e; exact hg) h.below.size,?_,by rw [List.length_set]; exact h.len,same_at h.ents hk rfl,fun x hx=>?_,hap,fun j hj hjk=>?_⟩
 ·rw [entsV_rows qk k hk] at hB
  exact hB
 ·rcases List.mem_or_eq_of_mem_set hx with hx2 | rfl
  · exact (h.lists x hx2).keepA ho (fun hr b hb e=>by subst e; exact (hap x hx).1 hr hb) (fun hr b hb e=>by subst e; exact (hap x hx).2 hr hb)
  · exact hl
 ·by_cases e:j=k
  ·subst e
   rw [List.getElem_set_self]
   exact ⟨fun _ b hb=>(ht b hb).1,fun _ b hb=>(hp b hb).1⟩
  ·rw [List.getElem_set_ne (Ne.symm e)]
   exact h.fresh j (by simpa using hj) (by omega)
end CopyAt
end Go.Proofs.YthkbcfhjmnpggaaGreat

namespace Go.Proofs.YthkbcfhjmnpggaaGreat
open Go.RowKit
set_option maxRecDepth 100000 in
set_option maxHeartbeats 8000000 in
theorem taCopied_any {w:World} {v:Value} {q:List Qe} (hv:SrcE w v q) (hn:q.length≤100000000) (hf:∀ x ∈ q,Fit x.r) :
 Calls Tryz.prog 65 #[v] w (EntsOut w (q.map Qe.ent)):=by
 obtain ⟨M,hM,hmk⟩:=taMk q.length hn w
 have hnew:=Blk.new w 108 M
 have hb0:=(Below.refl w.heap.size w).alloc (Nat.le_refl _) (.cells M 108)
 have hcp:=taCopy (w.alloc (.cells M 108)) w.heap.size M v q (hv.keep hb0) hnew hM
 have hb:=below_setRow (g:=w.heap.size) hb0 (Nat.le_refl _) (entsV q).toArray
 have START:Hid (CopyAt w ((w.alloc (.cells M 108)).setRow w.heap.size (entsV q).toArray) w.heap.size q q 0):=by
  refine ⟨hb,hnew.setRow _,rfl,rfl,fun x hx=>(hv.lists x hx).keep hb,fun x hx=>⟨fun hr e=>?_,fun hr e=>?_⟩,fun j _ h=>by omega⟩
  · have:=(hv.lists x hx).t.blt hr _ e; omega
  · have:=(hv.lists x hx).p.blt hr _ e; omega
 have HF:=Lib.hid hf
 obtain ⟨va,vc,rfl⟩:=hv.cells.form
 clear hv hf hM hnew hb hb0
 go_enter Tryz.func65,Tryz.ntmps65
 go_wp2_with fail
 generalize (w.alloc _).setRow _ _=w1 at *
 go_loopw [14,4,5] (fun vk v4 v5 wr=>∃ (k:Nat) (qk:List Qe),vk=.int .i64 k∧k≤q.length∧CopyAt w wr w.heap.size q qk k) (fun vk _ _ _=>q.length - (intOf vk).toNat)
 case atStart=>exact ⟨0,q,rfl,Nat.zero_le _,START.out⟩
 case round =>
  obtain ⟨k,qk,rfl,hk,hst⟩:=hrel
  clear START
  have ST:=Lib.hid hst
  clear hst
  by_cases hlt:k < q.length
  ·go_upto_region 7 with fail
   have hk2:k < qk.length:=by rw [ST.out.len]; exact hlt
   obtain ⟨x,hx⟩:∃ x,qk[k]=x:=⟨_,rfl⟩
   have hat:∀ i,i < 12→(entsV qk)[k*12+i]? = x.cells[i]?:=fun i hi=>by rw [← hx]; exact entsV_at qk k hk2 i hi
   have hlx:Lists wr x.r x.vt x.vp:=by rw [← hx]; exact ST.out.lists _ (List.getElem_mem hk2)
   have hfx:Fit x.r:=by
    have e:(qk.map Qe.ent)[k]'(by simpa using hk2)=(q.map Qe.ent)[k]'(by simpa using hlt):=by simp only [ST.out.ents]
    simp only [List.getElem_map] at e
    have e2:qk[k].r=q[k].r:=congrArg Prod.snd e
    rw [← hx,e2]
    exact HF.out _ (List.getElem_mem hlt)
   have C:Hid (∀ W,Below wr.heap.size wr W→W.cell? ⟨w.heap.size,k*12+1+7,none⟩=some (.string x.r.before)∧W.cell? ⟨w.heap.size,k*12+1+8,none⟩=some (.string x.r.after)∧Blk W w.heap.size 108 (entsV qk).toArray):=fun W hW=>by
    have B:=ST.out.blk.keep hW ST.out.blk.lt
    exact ⟨(B.cell _).trans (by rw [List.getElem?_toArray]; exact hat 8 (by omega)),(B.cell _).trans (by rw [List.getElem?_toArray]; exact hat 9 (by omega)),B⟩
   have D:Hid (∀ W,Blk W w.heap.size 108 (entsV qk).toArray→W.cell? ⟨w.heap.size,k*12+1+9,none⟩=some x.vt∧W.cell? ⟨w.heap.size,k*12+1+10,none⟩=some x.vp):=fun W B=>by
    exact ⟨(B.cell _).trans (by rw [List.getElem?_toArray]; exact hat 10 (by omega)),(B.cell _).trans (by rw [List.getElem?_toArray]; exact hat 11 (by omega))⟩
   have S8:Hid ((entsV qk).toArray[k*12+1+7]? = some (.string x.r.before)):=by rw [Hid,List.getElem?_toArray]; exact hat 8 (by omega)
   have S9:Hid ((entsV qk).toArray[k*12+1+8]? = some (.string x.r.after)):=by rw [Hid,List.getElem?_toArray]; exact hat 9 (by omega)
   have K1:=Lib.hid (fun W=>cloneS_any x.r.before W (by have:=hfx.before; omega))
   have K2:=Lib.hid (fun W=>cloneS_any x.r.after W (by have:=hfx.after; omega))
   have L3:=Lib.hid hlx
   have F3:=Lib.hid hfx
   have HX:=Lib.hid hx
   clear hat hlx hfx hx
   generalize x.r.before=sb at *
   generalize x.r.after=sa at *
   refine' wp_region_conf 18 (.is _::.is _::.is _::.is _::.is _::.is _::.is _::.is _::.is _::.is _::.is _::.is _::.is _::.is _::.is undef::.is _::.is _::.is undef::[]) (by kernel_rfl) (by kernel_rfl) (by kernel_rfl) (by kernel_rfl) rfl ?main
   case main =>
    iterate 14
     refine obs_is (fun w4 hE4 _=>?_) ?_
     ·obtain ⟨c7,c8,-⟩:=C.out w4 ((Below.refl wr.heap.size wr).drew.trans hE4)
      go_wp2_with (first | (refine (K1.out _).mono ?_; rintro e w5 ⟨rfl,hb5⟩) | (refine (K2.out _).mono ?_; rintro e w5 ⟨rfl,hb5⟩))
      first | exact post_is hb5 | exact post_is (Below.refl _ _)
     simp only [Act.put,sA,sB,sC]
    refine obs_is (fun w4 hE4 _=>?_) ?_
    ·obtain ⟨c7,-,B4⟩:=C.out w4 ((Below.refl wr.heap.size wr).drew.trans hE4)
     have f4:=B4.frozen (k*12+1+7)
     have s4:=Lib.hid (setCell_same B4 _ _ S8.out)
     clear B4
     go_wp2
     exact post_is s4.out
    simp only [Act.put]
    iterate 2
     refine obs_is (fun w4 hE4 _=>?_) ?_
     ·go_wp2
      exact post_is (Below.refl _ _)
     simp only [Act.put,sA,sB,sC]
    refine obs_is (fun w4 hE4 _=>?_) ?_
    ·obtain ⟨-,c7,B4⟩:=C.out w4 ((Below.refl wr.heap.size wr).drew.trans hE4)
     have f4:=B4.frozen (k*12+1+8)
     have s4:=Lib.hid (setCell_same B4 _ _ S9.out)
     clear B4
     go_wp2
     exact post_is s4.out
    simp only [Act.put]
    refine obs_end fun w5 hE5 _=>?_
    have hb5:=(Below.refl wr.heap.size wr).drew.trans hE5
    have ST5:=Lib.hid (ST.out.more hb5)
    have L5:=Lib.hid (L3.out.keep hb5)
    have B5:=Lib.hid (C.out w5 hb5).2.2
    clear hE5 hb5 ST L3 C S8 S9 K1 K2
    change wpList _ _ _ _ _ _
    go_upto_region 8 with fail
    have hlt5:w.heap.size < w5.heap.size:=B5.out.lt
    obtain ⟨pT,hpT⟩:∃ p:Value→World→Prop,p=fun v W=>Elems W v x.r.txns.length (rows3 x.r.txns)∧∀ b,v.ownBlock=some b→w5.heap.size≤b:=⟨_,rfl⟩
    obtain ⟨pP,hpP⟩:∃ p:Value→World→Prop,p=fun v W=>Elems W v x.r.pages.length (rows2 x.r.pages)∧∀ b,v.ownBlock=some b→w5.heap.size≤b:=⟨_,rfl⟩
    have mT:∀ v W W',Spare (· = w.heap.size) W W'→pT v W→pT v W':=fun v W W' hs hp=>by
     subst hpT
     exact ⟨hp.1.keepS ⟨hs.os,hs.tape,hs.output,hs.size,hs.block⟩ fun _ b hb e=>(by have:=hp.2 b hb; omega),hp.2⟩
    have mP:∀ v W W',Spare (· = w.heap.size) W W'→pP v W→pP v W':=fun v W W' hs hp=>by
     subst hpP
     exact ⟨hp.1.keepS ⟨hs.os,hs.tape,hs.output,hs.size,hs.block⟩ fun _ b hb e=>(by have:=hp.2 b hb; omega),hp.2⟩
    have hap:=ST5.out.apart x (by rw [← HX.out]; exact List.getElem_mem hk2)
    have KT:Hid (∀ W,Spare (· = w.heap.size) w5.drew W→Calls Tryz.prog 94 #[x.vt] W fun e W'=>∃ v',e=.returned v'∧pT v' W'∧Below W.heap.size W W'):=fun W hW =>
     (cloneRows3 x.r.txns x.vt W (L5.out.t.keepS ⟨hW.os,hW.tape,hW.output,hW.size,hW.block⟩ fun hr b hb e=>(by subst e; exact hap.1 hr hb)) (by have:=F3.out.txns; omega)).mono fun _ _ ⟨v',he,h1,h2,h3⟩=>⟨v',he,by subst hpT; exact ⟨h1,fun b hb=>Nat.le_trans hW.size (h2 b hb)⟩,h3⟩
    have KP:Hid (∀ W,Spare (· = w.heap.size) w5.drew W→Calls Tryz.prog 95 #[x.vp] W fun e W'=>∃ v',e=.returned v'∧pP v' W'∧Below W.heap.size W W'):=fun W hW =>
     (cloneRows2 x.r.pages x.vp W (L5.out.p.keepS ⟨hW.os,hW.tape,hW.output,hW.size,hW.block⟩ fun hr b hb e=>(by subst e; exact hap.2 hr hb)) (by have:=F3.out.pages; omega)).mono fun _ _ ⟨v',he,h1,h2,h3⟩=>⟨v',he,by subst hpP; exact ⟨h1,fun b hb=>Nat.le_trans hW.size (h2 b hb)⟩,h3⟩
    have MT:=Lib.hid mT
    have MP:=Lib.hid mP
    have HPT:=Lib.hid hpT
    have HPP:=Lib.hid hpP
    have X11:Hid (∀ ct:Value,((entsV qk).set (k*12+1+9) ct).toArray[k*12+1+10]? = some x.vp):=fun ct=>by
     rw [List.getElem?_toArray,List.getElem?_set_ne (by omega),← HX.out]
     exact entsV_at qk k hk2 11 (by omega)
    clear hap mT mP hpT hpP F3 L5
    refine' wp_region_stored 17 14 (· = w.heap.size) (fun W=>Blk W w.heap.size 108 (entsV qk).toArray) (fun W=>∃ ct,Blk W w.heap.size 108 ((entsV qk).set (k*12+1+9) ct).toArray∧pT ct W) (.is _::.is _::.is _::.is _::.is _::.is _::.of pT MT.out::.is _::.is _::.is _::.is _::.of pP MP.out::.is _::.is _::.is undef::.is _::.is _::[]) (by kernel_rfl) (by kernel_rfl) (by kernel_rfl) (by kernel_rfl) (by kernel_rfl) rfl B5.out (fun W W' hb h=>h.keep hb h.lt) (fun W W' hb ⟨ct,h1,h2⟩=>⟨ct,h1.keep hb h1.lt,MT.out _ _ _ (.ofBelow hb) h2⟩) ?main8
    case main8 =>
     iterate 5
      refine obsY_is (by rfl) (fun w4 hE4 _=>?_) ?_
      ·go_wp2
       exact postY_is (Below.refl _ _)
      simp only [Act.put,sA,sB,sC]
     refine obsY_read (by rfl) (by kernel_rfl) (fun w4 hE4 q4 _=>?_) ?_
     ·have c10:w4.cell? ⟨w.heap.size,k*12+1+9,none⟩=some x.vt:=(D.out _ q4).1
      clear q4
      go_wp2
      exact postY_is (Below.refl _ _)
     simp only [Act.put,sA,sB,sC]
     refine obsY_of (by rfl) (fun w4 hE4 _=>?_) fun ct=>?_
     ·have K4:=Lib.hid (KT.out _ hE4)
      clear hE4
      go_wp2_with fail
      refine K4.out.mono ?_
      rintro e w6 ⟨v',rfl,he,hb6⟩
      go_wp2
      exact postY_of he hb6
     simp only [Act.put,sA,sB,sC]
     iterate 3
      refine obsY_is (by rfl) (fun w4 hE4 _=>?_) ?_
      ·go_wp2
       exact postY_is (Below.refl _ _)
      simp only [Act.put,sA,sB,sC]
     refine obsY_read (by rfl) (by kernel_rfl) (fun w4 hE4 q4 _=>?_) ?_
     ·have c10:w4.cell? ⟨w.heap.size,k*12+1+10,none⟩=some x.vp:=(D.out _ q4).2
      clear q4
      go_wp2
      exact postY_is (Below.refl _ _)
     simp only [Act.put,sA,sB,sC]
     refine obsY_of (by rfl) (fun w4 hE4 _=>?_) fun cp=>?_
     ·have K4:=Lib.hid (KP.out _ hE4)
      clear hE4
      go_wp2_with fail
      refine K4.out.mono ?_
      rintro e w6 ⟨v',rfl,he,hb6⟩
      go_wp2
      exact postY_of he hb6
     simp only [Act.put,sA,sB,sC]
     iterate 2
      refine obsY_is (by rfl) (fun w4 hE4 _=>?_) ?_
      ·go_wp2
       exact postY_is (Below.refl _ _)
      simp only [Act.put,sA,sB,sC]
     refine obsY_store (fun w4 hE4 q4 hk4=>?_) ?_
     ·have pct:pT ct w4:=hk4 _ (List.mem_cons_of_mem _ (List.mem_cons_self ..)) (by kernel_rfl)
      have c10:w4.cell? ⟨w.heap.size,k*12+1+9,none⟩=some x.vt:=(D.out _ q4).1
      have f10:=q4.frozen (k*12+1+9)
      have n4:Hid (Blk (w4.setCell ⟨w.heap.size,k*12+1+9,none⟩ ct) w.heap.size 108 ((entsV qk).set (k*12+1+9) ct).toArray∧pT ct (w4.setCell ⟨w.heap.size,k*12+1+9,none⟩ ct)):=by
       refine ⟨?_,MT.out _ _ _ (Spare.setCell (S:=(· = w.heap.size)) rfl _) pct⟩
       have:=q4.set (k*12+1+9) ct
       rwa [List.setIfInBounds_toArray] at this
      have fm:=pct
      rw [HPT.out] at fm
      obtain ⟨ta,tc,hct⟩:=fm.1.form
      clear q4 hk4 pct hE4 fm
      subst hct
      have hsp:Spare (· = w.heap.size) w4 (w4.setCell ⟨w.heap.size,k*12+1+9,none⟩ (.slice ta x.r.txns.length tc)):=Spare.setCell (S:=(· = w.heap.size)) rfl _
      go_wp2
      exact postY_stored hsp ⟨_,n4.out⟩
     simp only [Act.put]
     iterate 2
      refine obsY_is (by rfl) (fun w4 hE4 _=>?_) ?_
      ·go_wp2
       exact postY_is (Below.refl _ _)
      simp only [Act.put,sA,sB,sC]
     refine obsY_end fun w6 hE6 r6 hk6=>?_
     have pcp:pP cp w6:=hk6 _ (List.mem_cons_self ..)
     obtain ⟨ct2,B6,pct⟩:=r6
     have c11:=(B6.cell (k*12+1+10)).trans (X11.out ct2)
     have f11:=B6.frozen (k*12+1+10)
     have hsp:Spare (· = w.heap.size) w5 (w6.setCell ⟨w.heap.size,k*12+1+10,none⟩ cp):=(Spare.ofBelow (Below.refl _ _).drew).trans (hE6.trans (Spare.setCell (S:=(· = w.heap.size)) rfl _))
     have hs2:Spare (· = w.heap.size) w6 (w6.setCell ⟨w.heap.size,k*12+1+10,none⟩ cp):=Spare.setCell (S:=(· = w.heap.size)) rfl _
     have p7:=MT.out _ _ _ hs2 pct
     have q7:=MP.out _ _ _ hs2 pcp
     have B7:=B6.set (k*12+1+10) cp
     rw [List.setIfInBounds_toArray] at B7
     rw [HPT.out] at p7
     rw [HPP.out] at q7
     have N7:=Lib.hid (ST5.out.next hk2 (vt:=ct2) (vp:=cp) hsp B7 (by rw [HX.out]; exact ⟨p7.1,q7.1⟩) (fun b hb=>by have:=p7.2 b hb; omega) (fun b hb=>by have:=q7.2 b hb; omega) (Nat.le_refl _))
     obtain ⟨ta,tc,hcp⟩:=q7.1.form
     clear hE6 hk6 pcp B6 pct hsp hs2 p7 q7 B7 KT KP MT MP ST5 B5 D X11 HPT HPP
     subst hcp
     change wpList _ _ _ _ _ _
     go_wp2_with fail
     exact ⟨⟨k+1,_,by go_num,by omega,N7.out⟩,by simp [intOf]; omega⟩
  ·obtain rfl:k=q.length:=by omega
   go_wp2
   go_ret
   obtain ⟨h1,h2,h3,h4,h5,h6,h7⟩:=ST.out
   refine ⟨_,qk,rfl,h4,⟨?_,h5,fun x hx b hb=>?_⟩,h1,fun x hx=>?_⟩
   ·rw [h3]
    have:=own_ofBlk (B:=w.heap.size) (n:=q.length) (c:=12) h2 (Nat.le_refl _) (by unfold maxLen; omega) (by rw [List.size_toArray,entsV_len,h3])
    exact this
   ·have hbg:b=w.heap.size:=by simpa [Value.ownBlock] using hb.symm
    subst hbg
    exact h6 x hx
   ·obtain ⟨j,hj,rfl⟩:=List.getElem_of_mem hx
    exact h7 j hj (by omega)
end Go.Proofs.YthkbcfhjmnpggaaGreat

namespace Go.Proofs.YthkbcfhjmnpggaaGreat
open Go.RowKit
structure Sys (w:World) (FD FL:Foot) (g gd:Nat) (D:Dk) (l:Wl):Prop where
 disk:IsDisk w FD gd D
 log:IsLog w FL g gd l
 apart:∀ b,FD b→¬ FL b
abbrev Both (FD FL:Foot):Foot:=fun b=>FD b∨FL b
namespace Sys
variable {w w':World} {FD FD' FL FL':Foot} {g gd:Nat} {D D':Dk} {l l':Wl}
theorem more (h:Sys w FD FL g gd D l) (hb:Below w.heap.size w w'):Sys w' FD FL g gd D l:=⟨h.disk.below hb,h.log.below hb,h.apart⟩
theorem onDisk (h:Sys w FD FL g gd D l) (hd:IsDisk w' FD' gd D') (hs:Step FD FD' w w'):Sys w' FD' FL g gd D' l∧Step (Both FD FL) (Both FD' FL) w w':=by
 refine ⟨⟨hd,⟨h.log.1,h.log.2.elim fun vb r=>⟨vb,r.keep (fun b hb=>hs.block b (r.lt b hb) fun e=>h.apart b e hb) hs.size⟩⟩,fun b hb hl=>?_⟩,⟨hs.os,hs.tape,hs.output,hs.size,fun b hb hf=>hs.block b hb fun e=>hf (.inl e),fun b hb=>?_⟩⟩
 ·rcases hs.foot b hb with hb | hb
  · exact h.apart b hb hl
  · have:=h.log.lt b hl; omega
 ·rcases hb with hb | hb
  · exact (hs.foot b hb).elim (fun e=>.inl (.inl e)) .inr
  · exact .inl (.inr hb)
theorem onLog (h:Sys w FD FL g gd D l) (hd:IsLog w' FL' g gd l') (hs:Step FL FL' w w'):Sys w' FD FL' g gd D l'∧Step (Both FD FL) (Both FD FL') w w':=by
 refine ⟨⟨⟨h.disk.1,h.disk.2.elim fun vs h1=>h1.elim fun vq h2=>h2.elim fun m r=>⟨vs,vq,m,r.keep (fun b hb=>hs.block b (r.lt b hb) (h.apart b hb)) hs.size⟩⟩,hd,fun b hb hl=>?_⟩,⟨hs.os,hs.tape,hs.output,hs.size,fun b hb hf=>hs.block b hb fun e=>hf (.inr e),fun b hb=>?_⟩⟩
 ·rcases hs.foot b hl with hl | hl
  · exact h.apart b hb hl
  · have:=h.disk.lt b hb; omega
 ·rcases hb with hb | hb
  · exact .inl (.inl hb)
  · exact (hs.foot b hb).elim (fun e=>.inl (.inr e)) .inr
end Sys
def Wl.place (l:Wl) (k:Nat):Nat:=l.base+k % l.size
def Wl.sector (l:Wl) (k:Nat):ByteArray:=packed l.epoch k (bodyS (l.secs.getD (k - l.low) []))
section
variable {w:World} {FD FL:Foot} {g gd:Nat} {D:Dk} {l:Wl}
set_option maxRecDepth 100000 in
set_option maxHeartbeats 8000000 in
theorem lwrite_any (h:Sys w FD FL g gd D l) (k:Nat) (h1:l.low≤k) (h2:k < l.end_) (he:l.epoch < 4294967296) (hw:D.waits.length < 16777216) :
 Calls Tryz.prog 44 #[.pointer (some ⟨g,0,none⟩),.int .i64 k] w fun e w'=>e=.returned (.int .i64 (D.writeE (l.place k) (l.sector k)))∧∃ FD',Sys w' FD' FL g gd (D.write (l.place k) (l.sector k)) l∧Step (Both FD FL) (Both FD' FL) w w':=by
 have HS:=Lib.hid h
 obtain ⟨ok,vb,r⟩:=h.log
 have hlm:=ok.lm
 have h64:=ok.s64
 have hlen:=ok.len
 have hkl:k - l.low < l.secs.length:=by unfold Wl.end_ at h2; omega
 have hk32:k < 4294967296:=by unfold Wl.end_ at h2; omega
 have hbd:(bodyS (l.secs.getD (k - l.low) [])).size≤112:=by
  have hmem:l.secs.getD (k - l.low) [] ∈ l.secs:=by
   rw [List.getD_eq_getElem?_getD,List.getElem?_eq_getElem hkl]
   exact List.getElem_mem hkl
  rw [bodyS_size]
  exact (ok.sec _ hmem).2.2
 have PK:=Lib.hid (fun W=>pack_c l.epoch k (bodyS (l.secs.getD (k - l.low) [])) W he hk32 hbd)
 have PL:Hid (∀ W,Below w.heap.size w W→Calls Tryz.prog 76 #[.pointer (some ⟨g,0,none⟩),.int .i64 k] W (Peeks W (.int .i64 (l.place k)))):=fun W hW=>place_any (h.log.below hW).zero k (by omega)
 have WR:Hid (∀ W,Below w.heap.size w W→Calls Tryz.prog 75 #[.pointer (some ⟨gd,0,none⟩),.int .i64 (l.place k),.string (l.sector k)] W fun e w'=>e=.returned (.int .i64 (D.writeE (l.place k) (l.sector k)))∧∃ FD',IsDisk w' FD' gd (D.write (l.place k) (l.sector k))∧Step FD FD' W w') :=
  fun W hW=>write_any (h.disk.below hW) _ _ hw
 have hsec:l.sector k=packed l.epoch k (bodyS (l.secs.getD (k - l.low) [])):=rfl
 rw [← hsec] at PK
 obtain ⟨g2,cap,rfl,hcap,hcm⟩:=own_form r.rows (by omega)
 have cl:w.cell? ⟨g2,k - l.low,none⟩=some (.string (bodyS (l.secs.getD (k - l.low) []))):=by
  rw [r.rows.cellAt _ (by omega)]
  simp only [strsV,List.map_map,List.getElem?_map]
  rw [List.getD_eq_getElem?_getD,List.getElem?_eq_getElem hkl]
  rfl
 have hsub:((k - l.low:Nat):Int)=(k:Int) - (l.low:Int):=by omega
 have hg2:g2 < w.heap.size:=(r.rows.lt g2 rfl).2
 have CELLS:Hid (∀ W,Below w.heap.size w W→W.cell? ⟨g,0,none⟩=some (.pointer (some ⟨gd,0,none⟩))∧W.cell? ⟨g,3,none⟩=some (.int .i64 l.epoch)∧W.cell? ⟨g,4,none⟩=some (.int .i64 l.low)∧W.cell? ⟨g,6,none⟩=some (.slice (some ⟨g2,0,none⟩) l.secs.length cap)∧W.cell? ⟨g2,k - l.low,none⟩=some (.string (bodyS (l.secs.getD (k - l.low) [])))) :=
  fun W hW=>⟨(r.below hW).cells.1,(r.below hW).cells.2.2.2.1,(r.below hW).cells.2.2.2.2.1,(r.below hW).cells.2.2.2.2.2.2,(hW.cell (p:=⟨g2,k - l.low,none⟩) hg2).trans cl⟩
 have hep:(l.epoch:Int)≤4294967295:=by omega
 have hep2:(l.epoch:Int) % 4294967296=l.epoch:=by omega
 have hk2:(k:Int) % 4294967296=k:=by omega
 have hkb:(k:Int) < 4294967296:=by omega
 have hidx:(k:Int) - (l.low:Int) < l.secs.length:=by omega
 have hidx0:(0:Int)≤(k:Int) - (l.low:Int):=by omega
 have c3:=r.cells.2.2.2.1
 have htn:((k:Int) - (l.low:Int)).toNat=k - l.low:=by omega
 clear hsec cl hbd hkl ok r hcap hcm hg2 h hlen h64 hlm he hk32 hw hsub
 generalize bodyS (l.secs.getD (k - l.low) [])=b at *
 generalize l.sector k=s at *
 generalize l.place k=p at *
 generalize D.write p s=D1 at *
 generalize D.writeE p s=er at *
 go_enter Tryz.func44,Tryz.ntmps44
 go_wp2_with fail
 clear c3
 refine' wp_region_conf 22 (.is _::.is _::.is _::.is _::.is _::.is _::.is _::.is _::.is _::.is _::.is _::.is _::.is _::.is _::.is _::.is _::.is _::.is _::.is _::.is _::.is _::.is _::[]) (by kernel_rfl) (by kernel_rfl) (by kernel_rfl) (by kernel_rfl) rfl ?main
 case main =>
  iterate 22
   refine obs_is (fun w4 hE4 _=>?_) ?_
   ·obtain ⟨d0,d3,d4,d6,db⟩:=CELLS.out w4 ((Below.refl w.heap.size w).drew.trans hE4)
    go_wp2_with (go_at_call 74; refine (PK.out _).mono ?_; rintro e w5 ⟨rfl,hb5⟩)
    first | exact post_is hb5 | exact post_is (Below.refl _ _)
   simp only [Act.put,sA,sB,sC]
  refine obs_end fun w3 hE3 _=>?_
  have HB:=Lib.hid ((Below.refl w.heap.size w).drew.trans hE3)
  clear hE3
  change wpList _ _ _ _ _ _
  go_wp2_with fail
  refine' wp_region_conf 8 (.is _::.is _::.is _::.is _::.is _::.is _::.is _::.is _::[]) (by kernel_rfl) (by kernel_rfl) (by kernel_rfl) (by kernel_rfl) rfl ?main
  case main =>
   iterate 8
    refine obs_is (fun w4 hE4 _=>?_) ?_
    ·have hb4:=HB.out.trans (((Below.refl w3.heap.size w3).drew.trans hE4).mono HB.out.size)
     obtain ⟨d0,_⟩:=CELLS.out w4 hb4
     go_wp2_with (go_at_call 76; refine (PL.out _ hb4).mono ?_; rintro e w5 ⟨rfl,nq,rfl⟩)
     first | exact post_is (drewN_below _ _) | exact post_is (Below.refl _ _)
    simp only [Act.put,sA,sB,sC]
   refine obs_end fun w6 hE6 _=>?_
   have hb6:=HB.out.trans (((Below.refl w3.heap.size w3).drew.trans hE6).mono HB.out.size)
   have HB6:=Lib.hid hb6
   clear hE6 hb6
   change wpList _ _ _ _ _ _
   go_wp2_with fail
   refine (WR.out _ HB6.out).mono ?_
   rintro e w7 ⟨rfl,FD',hd,hs⟩
   have FIN:=Lib.hid ((HS.out.more HB6.out).onDisk hd hs)
   have BB:=Lib.hid ((Step.ofBelow (F:=Both FD FL) HB6.out).trans FIN.out.2)
   clear hd hs
   go_wp2
   go_ret
   exact ⟨rfl,FD',FIN.out.1,BB.out⟩
end
end Go.Proofs.YthkbcfhjmnpggaaGreat
