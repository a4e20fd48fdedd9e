/- Texts that belong together, joined: TaD, AppS, TaE. -/
import Derived.Test.YthkbcfhjmnpggaaGreatK15
import Derived.Test.YthkbcfhjmnpggaaGreatK18
import Derived.Test.YthkbcfhjmnpggaaGreatK02
import Derived.Test.YthkbcfhjmnpggaaGreatK00
import Derived.Laws.AppendOwnNone
import Derived.Test.YthkbcfhjmnpggaaGreatK03
namespace Go.Proofs.YthkbcfhjmnpggaaGreat
open Go.RowKit
def tpCells (t:Tp) (v:Value):Array Value:=#[.int .i64 ((t.upto:Int) - 1),v]
structure TpR (w:World) (F:Foot) (g:Nat) (t:Tp) (v:Value) (q:List Qe):Prop where
 head:Blk w g 95 (tpCells t v)
 own:OwnE w 0 v q
 ents:q.map Qe.ent=t.l
 fg:F g
 fv:∀ b,v.ownBlock=some b→F b
 fr:∀ x ∈ q,(rows3 x.r.txns≠[]→∀ b,x.vt.ownBlock=some b→F b∧b≠g)∧(rows2 x.r.pages≠[]→∀ b,x.vp.ownBlock=some b→F b∧b≠g)
 lt:∀ b,F b→b < w.heap.size
structure Tp.Ok (t:Tp):Prop where
 one:1≤t.upto
 um:t.upto≤4294967296
 fit:∀ x ∈ t.l,Fit x.2
 len:t.l.length≤50000000
def IsTp (w:World) (F:Foot) (g:Nat) (t:Tp):Prop:=t.Ok∧∃ v q,TpR w F g t v q
namespace TpR
variable {w w':World} {F:Foot} {g:Nat} {t:Tp} {v:Value} {q:List Qe}
theorem only (h:TpR w F g t v q) {S:Nat→Prop} (hb:Only S w w') (hS:∀ b,F b→¬ S b):TpR w' F g t v q :=
 ⟨(hb.block g (h.lt g h.fg) (hS g h.fg)).trans h.head,⟨own_only h.own.own hb fun b hb2=>hS b (h.fv b hb2),fun x hx=>(h.own.lists x hx).keepA hb (fun hr b hb2=>hS b ((h.fr x hx).1 hr b hb2).1) (fun hr b hb2=>hS b ((h.fr x hx).2 hr b hb2).1),h.own.apart⟩,h.ents,h.fg,h.fv,h.fr,fun b hF=>Nat.lt_of_lt_of_le (h.lt b hF) hb.size⟩
theorem below (h:TpR w F g t v q) (hb:Below w.heap.size w w'):TpR w' F g t v q :=
 h.only (S:=fun b=>¬ b < w.heap.size) ⟨hb.os,hb.tape,hb.output,hb.size,fun b hlt _=>hb.block b hlt⟩ fun b hF hn=>hn (h.lt b hF)
theorem cells (h:TpR w F g t v q):w.cell? ⟨g,0,none⟩=some (.int .i64 ((t.upto:Int) - 1))∧w.cell? ⟨g,1,none⟩=some v:=⟨h.head.cell 0,h.head.cell 1⟩
theorem vg (h:TpR w F g t v q):v.ownBlock≠some g:=own_blk h.own.own h.head (by decide)
end TpR
namespace IsTp
variable {w w':World} {F:Foot} {g:Nat} {t:Tp}
theorem only (h:IsTp w F g t) {S:Nat→Prop} (hb:Only S w w') (hS:∀ b,F b→¬ S b):IsTp w' F g t:=⟨h.1,h.2.elim fun v h=>h.elim fun q r=>⟨v,q,r.only hb hS⟩⟩
theorem below (h:IsTp w F g t) (hb:Below w.heap.size w w'):IsTp w' F g t:=⟨h.1,h.2.elim fun v h=>h.elim fun q r=>⟨v,q,r.below hb⟩⟩
theorem lt (h:IsTp w F g t):∀ b,F b→b < w.heap.size:=h.2.elim fun _ h=>h.elim fun _ r=>r.lt
end IsTp
theorem Tp.Ok.new:Tp.new.Ok:=⟨Nat.le_refl _,by decide,fun x h=>by simp [Tp.new] at h,Nat.zero_le _⟩
section
variable {w:World} {F FL:Foot} {g gl gd:Nat} {t:Tp} {l:Wl}
set_option maxRecDepth 100000 in
set_option maxHeartbeats 2000000 in
theorem tapeNew_any (w:World):Calls Tryz.prog 10 #[] w fun e w'=>e=.returned (.pointer (some ⟨w.heap.size,0,none⟩))∧IsTp w' (· = w.heap.size) w.heap.size Tp.new∧Below w.heap.size w w':=by
 go_enter Tryz.func10,Tryz.ntmps10
 go_wp2
 go_ret
 refine ⟨rfl,⟨Tp.Ok.new,.slice none 0 0,[],?_,OwnE.nil _ _,rfl,rfl,fun b hb=>by simp [Value.ownBlock] at hb,fun x hx=>by simp at hx,fun b hb=>by subst hb; simp⟩,(Below.refl _ _).alloc (Nat.le_refl _) _⟩
 exact Blk.new _ _ _
set_option maxRecDepth 100000 in
set_option maxHeartbeats 2000000 in
theorem upto_any (h:IsTp w F g t):Calls Tryz.prog 30 #[.pointer (some ⟨g,0,none⟩)] w fun e w'=>e=.returned (.int .i64 t.upto)∧w=w':=by
 obtain ⟨ok,v,q,r⟩:=h
 obtain ⟨c0,_⟩:=r.cells
 have h1:(1:Int)≤t.upto:=by have:=ok.one; omega
 have h2:(t.upto:Int)≤4294967296:=by have:=ok.um; omega
 clear r ok
 generalize t.upto=x at *
 go_enter Tryz.func30,Tryz.ntmps30
 go_wp2
 go_ret
 refine ⟨?_,rfl⟩
 congr 2
set_option maxRecDepth 100000 in
set_option maxHeartbeats 2000000 in
theorem tapeList_any (h:IsTp w F g t):Calls Tryz.prog 31 #[.pointer (some ⟨g,0,none⟩)] w (EntsOut w t.l):=by
 obtain ⟨ok,v,q,r⟩:=h
 obtain ⟨_,c1⟩:=r.cells
 have hlen:q.length≤100000000:=by
  have:=congrArg List.length r.ents
  rw [List.length_map] at this
  have:=ok.len
  omega
 have K:=Lib.hid (taCopied_any r.own.src hlen fun x hx=>ok.fit x.ent (by rw [← r.ents]; exact List.mem_map.2 ⟨x,hx,rfl⟩))
 rw [r.ents] at K
 obtain ⟨va,vc,hvs⟩:=own_slice r.own.own
 clear r ok hlen
 subst hvs
 go_enter Tryz.func31,Tryz.ntmps31
 go_wp2_with fail
 refine K.out.mono ?_
 rintro e w1 ⟨v',q',rfl,hq,ho,hb,hf⟩
 have HR:=Lib.hid (And.intro hq (And.intro ho (And.intro hb hf)))
 clear hq ho hb hf K
 go_wp2
 go_ret
 exact ⟨v',q',rfl,HR.out.1,HR.out.2.1,HR.out.2.2.1,HR.out.2.2.2⟩
set_option maxRecDepth 100000 in
set_option maxHeartbeats 2000000 in
theorem rest_state (hT:IsTp w F g t) (hL:IsLog w FL gl gd l) (hlow:t.upto < l.low):Calls Tryz.prog 49 #[.pointer (some ⟨g,0,none⟩),.pointer (some ⟨gl,0,none⟩)] w fun e w'=>e=.returned (.tuple #[.slice none 0 0,.int .i64 11])∧w=w':=by
 have HL:=Lib.hid hL
 have HT:=Lib.hid hT
 have h1:((t.upto:Nat):Int) < l.low:=by omega
 clear hL hT hlow
 go_enter Tryz.func49,Tryz.ntmps49
 go_wp2_with fail
 refine (low_any HL.out).mono ?_
 rintro e w1 ⟨rfl,rfl⟩
 go_wp2_with fail
 refine (upto_any HT.out).mono ?_
 rintro e w1 ⟨rfl,rfl⟩
 go_wp2
 go_ret2
 exact ⟨rfl,rfl⟩
set_option maxRecDepth 100000 in
set_option maxHeartbeats 2000000 in
theorem rest_ok (hT:IsTp w F g t) (hL:IsLog w FL gl gd l) (hlow:l.low≤t.upto):Calls Tryz.prog 49 #[.pointer (some ⟨g,0,none⟩),.pointer (some ⟨gl,0,none⟩)] w fun e w'=>∃ v q,e=.returned (.tuple #[v,.int .i64 0])∧q.map Qe.ent=t.behind l∧OwnE w' w.heap.size v q∧Below w.heap.size w w'∧FreshQ w.heap.size q:=by
 have HL:=Lib.hid hL
 have HT:=Lib.hid hT
 have h1:¬ ((t.upto:Nat):Int) < l.low:=by omega
 have h2:((t.upto:Nat):Int)≤4294967296:=by have:=hT.1.um; omega
 have K:=Lib.hid (scan_any hL (((t.upto*128:Nat)):Int) (by simp [Lit.wf,IntKind.min,IntKind.max,IntKind.signed,IntKind.bits]; omega))
 have e1:((t.upto*128:Nat):Int)=(t.upto:Int)*128:=by omega
 unfold Tp.behind
 rw [e1] at K ⊢
 clear hL hT hlow e1
 go_enter Tryz.func49,Tryz.ntmps49
 go_wp2_with fail
 refine (low_any HL.out).mono ?_
 rintro e w1 ⟨rfl,rfl⟩
 go_wp2_with fail
 refine (upto_any HT.out).mono ?_
 rintro e w1 ⟨rfl,rfl⟩
 go_wp2_with fail
 refine (upto_any HT.out).mono ?_
 rintro e w1 ⟨rfl,rfl⟩
 go_wp2_with fail
 refine K.out.mono ?_
 rintro e w1 ⟨v',q',rfl,hq,ho,hb,hf⟩
 have HR:=Lib.hid (And.intro hq (And.intro ho (And.intro hb hf)))
 clear hq ho hb hf K
 go_wp2
 go_ret2
 exact ⟨v',q',rfl,HR.out.1,HR.out.2.1,HR.out.2.2.1,HR.out.2.2.2⟩
end
end Go.Proofs.YthkbcfhjmnpggaaGreat

namespace Go.Proofs.YthkbcfhjmnpggaaGreat
open Go.RowKit
theorem setRow_again {w:World} {g:Nat} {cs:Array Value} {t:TypeId} {fr:Nat × Nat} (h:w.heap[g]? = some (.cells cs t fr)):w.setRow g cs=w:=by
 have hh:(w.setRow g cs).heap=w.heap:=by
  apply Array.ext_getElem?
  intro k
  by_cases hk:k=g
  ·subst hk
   exact (setRow_heap w k cs cs t fr h).trans h.symm
  · exact setRow_other w g k cs hk
 have e:w.setRow g cs = { w with heap:=(w.setRow g cs).heap }:=rfl
 rw [e,hh]
structure Src (w:World) (size:Nat) (x:Value) (m:Nat) (news:List Value):Prop where
 len:news.length=m*size
 one:∀ u ∈ news,u.oneCell' = true
 form:(x=.slice none 0 0∧m=0)∨∃ ad c,x=.slice (some ad) m c∧∀ j u,news[j]? = some u→w.cell? (ad.add j)=some u
def Full (v:Value) (n:Nat):Prop:=(v=.slice none 0 0∧n=0)∨∃ g,v=.slice (some ⟨g,0,none⟩) n n
theorem run_append_full {P:Program} {w:World} (base:Nat) (t ty e:TypeId) (i:TypeInfo) (z:Value) (size bytes:Nat) (ht:P.underlying t=some (.slice e)) (hi:P.info? e=some i) (hz:i.zero=some z)
 (hsize:i.size=size) (hby:i.bytes=bytes) (hzs:z.cells.size=size) (hsz:0 < size)
 (v x:Value) (n m:Nat) (xs news:List Value) (hown:w.ownsRow base e size v n xs) (hfull:Full v n) (hsrc:Src w size x m news)
 (h63:n+m≤maxLen) (hbytes:(n+m)*bytes≤140737488355328) (hbase:base≤w.heap.size) :
 ∃ v' w',(Builtin.append_ #[t,t] ty #[v,x]).run P w=.ok v' w'∧w'.ownsRow base e size v' (n+m) (xs++news)∧Below w.heap.size w w'∧(v' = v∨v'.ownBlock=some w.heap.size):=by
 rcases hsrc.form with ⟨rfl,rfl⟩ | ⟨ad,c,rfl,hnews⟩
 ·have hn:news = []:=List.eq_nil_of_length_eq_zero (by simpa using hsrc.len)
  subst hn
  exact ⟨v,w,run_append_owned_none (P:=P) (w:=w) base t ty e i size ht hi v n xs hown,by rw [List.append_nil]; exact hown,Below.refl _ _,.inl rfl⟩
 ·by_cases hm:m=0
  ·subst hm
   have hn:news = []:=List.eq_nil_of_length_eq_zero (by simpa using hsrc.len)
   subst hn
   rcases hown.2 with ⟨rfl,rfl⟩ | ⟨g,cap,cur,rfl,hbg,hg,hnc,hcm,hcs,htake⟩
   ·refine ⟨.slice none 0 0,w,?_,by rw [List.append_nil]; exact hown,Below.refl _ _,.inl rfl⟩
    simp [Builtin.append_,run_underlying ht,sizeOf,typeInfo,hi,Builtin.lenOf,Builtin.firstCells,loadCells,loadCellsFrom]
   ·have hr:=run_append_room (P:=P) w t ty e i ht hi g n cap cur hg ad 0 c ([]:List Value) (by simp) (by simp) (by simp) hnc (by rw [List.length_nil,hcs,hsize]; exact Nat.mul_le_mul_right _ hnc)
    refine ⟨_,w,?_,by rw [List.append_nil]; exact hown,Below.refl _ _,.inl rfl⟩
    rw [hr]
    have hsame:w.setRow g (List.take (n*i.size) cur.toList++([]:List Value)++List.drop (n*i.size+([]:List Value).length) cur.toList).toArray=w:=by
     simp only [List.append_nil,List.length_nil,Nat.add_zero,List.take_append_drop]
     exact setRow_again hg
    simp only [Nat.add_zero]
    exact congrArg _ hsame
  ·have key:∀ hown':w.ownsRow base e size v n xs,∃ v' w',(Builtin.append_ #[t,t] ty #[v,.slice (some ad) m c]).run P w=.ok v' w'∧w'.ownsRow base e size v' (n+m) (xs++news)∧Below w.heap.size w w'∧v'.ownBlock=some w.heap.size:=by
    intro _
    subst hsize
    subst hby
    have hsmall:n+m≤9223372036854775807:=by simp only [maxLen] at h63; omega
    have hlen:(xs++news).length=(n+m)*i.size:=by rw [List.length_append,hown.1,hsrc.len,Nat.add_mul]
    have grown:∀ (old:Nat),old < n+m →
     (w.drew.alloc (.cells (xs.toArray++news.toArray++Builtin.zeroCells z.cells (grownCap w (n+m) old e - (n+m))) e)).ownsRow base e i.size
       (.slice (some ⟨w.heap.size,0,none⟩) (n+m) (grownCap w (n+m) old e)) (n+m) (xs++news) ∧
     Below w.heap.size w (w.drew.alloc (.cells (xs.toArray++news.toArray++Builtin.zeroCells z.cells (grownCap w (n+m) old e - (n+m))) e)):=by
     intro old ho
     have hge:=grownCap_ge w (n+m) old e
     have hcm:grownCap w (n+m) old e≤maxLen:=grownCap_le_maxLen w (n+m) old e h63
     refine ⟨⟨hlen,.inr ⟨w.heap.size,_,_,rfl,hbase,heap_alloc_new w.drew _,hge,hcm,?_,?_⟩⟩,((Below.refl _ _).drew).alloc (Nat.le_refl _) _⟩
     ·simp only [Array.size_append,List.size_toArray,size_zeroCells,hzs,hown.1,hsrc.len,← Nat.add_mul]
      congr 1
      omega
     ·simp only [Array.toList_append,List.append_assoc]
      rw [← List.append_assoc,← hlen]
      exact List.take_left
    rcases hfull with ⟨rfl,rfl⟩ | ⟨g,rfl⟩
    ·have hx:xs = []:=List.eq_nil_of_length_eq_zero (by simpa using hown.1)
     subst hx
     have hr:=run_append_nil (P:=P) w t ty e i z ht hi hz ad m c news hsrc.len hnews (by omega) (by omega) (by have hb:=hbytes; simp only [Nat.zero_add] at hb; omega)
     have hgr:=grown 0 (by omega)
     simp only [Nat.zero_add,List.nil_append,Array.empty_append] at hgr ⊢
     exact ⟨_,_,hr,hgr.1,hgr.2,rfl⟩
    ·have holds:∀ j u,xs[j]? = some u→w.cell? ((⟨g,0,none⟩:Addr).add j)=some u:=hown.cells (g:=g) rfl
     have hr:=run_append_grow (P:=P) w t ty e i z ht hi hz ⟨g,0,none⟩ n n xs hown.1 holds ad m c news hsrc.len hnews (by omega) (by omega) (growslice_fits (by omega) hbytes)
     have hgr:=grown n (by omega)
     exact ⟨_,_,hr,hgr.1,hgr.2,rfl⟩
   obtain ⟨v',w',h1,h2,h3,h4⟩:=key hown
   exact ⟨v',w',h1,h2,h3,.inr h4⟩
theorem wpList_append_full {P:Program} {w:World} {ops:Array Oper} {rest:List Oper} {o:Oper} {a:Act} {Q:Exit→Act→World→Prop} (hgd:o.guard=none) (s x:Operand) (t:TypeId)
 (ho:o.op=.call { callee:=.builtin .append,args:=#[s,x],argTypes:=#[t,t] })
 (base:Nat) (e:TypeId) (i:TypeInfo) (z:Value) (size bytes:Nat) (ht:P.underlying t=some (.slice e)) (hi:P.info? e=some i) (hz:i.zero=some z)
 (hsize:i.size=size) (hby:i.bytes=bytes) (hzs:z.cells.size=size) (hsz:0 < size)
 (v:Value) (n:Nat) (xs:List Value) (hs:a.eval s=v) (hown:w.ownsRow base e size v n xs) (hfull:Full v n)
 (y:Value) (m:Nat) (news:List Value) (hx:a.eval x=y) (hsrc:Src w size y m news)
 (h63:n+m≤maxLen) (hbytes:(n+m)*bytes≤140737488355328) (hbase:base≤w.heap.size)
 (h:∀ v' w',w'.ownsRow base e size v' (n+m) (xs++news)→Below w.heap.size w w'→(v' = v∨v'.ownBlock=some w.heap.size)→wpList P ops Q rest (a.put o.dst v') w'):wpList P ops Q (o::rest) a w:=by
 obtain ⟨v',w',hr,h2,h3,h4⟩:=run_append_full (P:=P) (w:=w) base t o.type e i z size bytes ht hi hz hsize hby hzs hsz v y n m xs news hown hfull hsrc h63 hbytes hbase
 refine wpList_plain hgd fun K hK=>?_
 unfold Oper.wp execOp
 simp only [ho,resolve,invoke,builtin,Sem.run_bind,Sem.run_pure,Result.andThen_ok,List.map_toArray,List.map_cons,List.map_nil,hs,hx,hr]
 exact hK _ _ (h v' w' h2 h3 h4)
theorem wpList_append_src {P:Program} {w:World} {ops:Array Oper} {rest:List Oper} {o:Oper} {a:Act} {Q:Exit→Act→World→Prop} (hgd:o.guard=none) (s x:Operand) (t:TypeId)
 (ho:o.op=.call { callee:=.builtin .append,args:=#[s,x],argTypes:=#[t,t] })
 (base:Nat) (e:TypeId) (i:TypeInfo) (z:Value) (size bytes:Nat) (ht:P.underlying t=some (.slice e)) (hi:P.info? e=some i) (hz:i.zero=some z)
 (hsize:i.size=size) (hby:i.bytes=bytes) (hzs:z.cells.size=size) (hsz:0 < size)
 (v:Value) (n:Nat) (xs:List Value) (hs:a.eval s=v) (hown:w.ownsRow base e size v n xs)
 (y:Value) (m:Nat) (news:List Value) (hx:a.eval x=y) (hsrc:Src w size y m news)
 (h63:n+m≤maxLen) (hbytes:(n+m)*bytes≤140737488355328) (hbase:base≤w.heap.size)
 (h:∀ v' w',w'.ownsRow base e size v' (n+m) (xs++news)→w.grownBy w' v.ownBlock→(v'.ownBlock=v.ownBlock∨v'.ownBlock=some w.heap.size)→wpList P ops Q rest (a.put o.dst v') w'):wpList P ops Q (o::rest) a w:=by
 rcases hsrc.form with ⟨rfl,rfl⟩ | ⟨ad,c,rfl,hnews⟩
 ·have hn:news = []:=List.eq_nil_of_length_eq_zero (by simpa using hsrc.len)
  subst hn
  exact wpList_append_own_none hgd s x t ho base e i size ht hi v n xs hs hown hx (h v w (by rw [List.append_nil]; exact hown) ⟨rfl,rfl,rfl,Nat.le_refl _,fun _ _ _=>rfl⟩ (.inl rfl))
 · exact wpList_append_own_at w hgd s x t ho base e i z size bytes ht hi hz hsize hby hzs hsz v n xs hs hown ad m c news hx hsrc.len hnews hsrc.one h63 hbytes hbase fun v' w' h1 h2 _ h4=>h v' w' h1 h2 h4
end Go.Proofs.YthkbcfhjmnpggaaGreat

namespace Go.Proofs.YthkbcfhjmnpggaaGreat
open Go.RowKit
theorem Wl.all_count {l:Wl} (ok:l.Ok):l.all.length≤7168:=by
 have key:∀ (s:List (List Rc)) (k:Nat),(∀ rs ∈ s,rs≠[]∧(∀ r ∈ rs,May r)∧(body rs).length≤112)→(Wl.allFrom k s).length≤112*s.length:=by
  intro s
  induction s with
  | nil=>intro k _; simp [Wl.allFrom]
  | cons rs s ih =>
    intro k h
    have h1:=ih (k+1) fun q hq=>h q (by simp [hq])
    have h2:=h rs (by simp)
    have h3:=body_count rs h2.2.1
    show (entsOf _ rs++Wl.allFrom (k+1) s).length≤112*(s.length+1)
    rw [List.length_append,entsOf_len]
    omega
 have:=key l.secs l.low ok.sec
 have h1:=ok.len
 have h2:=ok.s64
 unfold Wl.all
 omega
theorem entsOf_may:∀ (a:Int) (rs:List Rc),(∀ r ∈ rs,May r)→∀ x ∈ entsOf a rs,May x.2
 | _,[],_,x,h=>by simp [entsOf] at h
 | a,r::rs,hm,x,h=>by
   rcases List.mem_cons.1 h with rfl | h
   · exact hm r (by simp)
   · exact entsOf_may _ rs (fun q hq=>hm q (by simp [hq])) x h
theorem Wl.all_may {l:Wl} (ok:l.Ok):∀ x ∈ l.all,May x.2:=by
 have key:∀ (s:List (List Rc)) (k:Nat),(∀ rs ∈ s,∀ r ∈ rs,May r)→∀ x ∈ Wl.allFrom k s,May x.2:=by
  intro s
  induction s with
  | nil=>intro k _ x h; simp [Wl.allFrom] at h
  | cons rs s ih =>
    intro k h x hx
    rcases List.mem_append.1 hx with hx | hx
    · exact entsOf_may _ rs (h rs (by simp)) x hx
    · exact ih (k+1) (fun q hq=>h q (by simp [hq])) x hx
 exact key l.secs l.low fun rs h=>(ok.sec rs h).2.1
theorem Tp.fresh_take {t:Tp} {l:Wl} (ok:l.Ok) (k:Nat) (hk:k≤(t.behind l).length) (h1:∀ j (hj:j < (t.behind l).length),j < k→(t.behind l)[j].1.tdiv 128 < (l.first:Int))
 (h2:∀ hk2:k < (t.behind l).length,¬ (t.behind l)[k].1.tdiv 128 < (l.first:Int)):t.fresh l=(t.behind l).take k:=by
 have hup:Up (t.behind l):=List.Pairwise.sublist List.filter_sublist (Wl.all_up ok)
 have hpos:∀ x ∈ t.behind l,(0:Int)≤x.1:=fun x hx=>by have:=Wl.all_low ok x (List.mem_filter.1 hx).1; omega
 unfold Tp.fresh
 generalize t.behind l=L at *
 conv=>lhs; rw [← List.take_append_drop k L]
 rw [List.filter_append]
 have e1:(L.take k).filter (fun x=>decide (x.1.tdiv 128 < (l.first:Int)))=L.take k:=List.filter_eq_self.2 fun x hx=>by
  obtain ⟨j,hj,rfl⟩:=List.getElem_of_mem hx
  rw [List.length_take] at hj
  rw [List.getElem_take]
  exact decide_eq_true (h1 j (by omega) (by omega))
 have e2:(L.drop k).filter (fun x=>decide (x.1.tdiv 128 < (l.first:Int))) = []:=List.filter_eq_nil_iff.2 fun x hx=>by
  obtain ⟨j,hj,rfl⟩:=List.getElem_of_mem hx
  rw [List.length_drop] at hj
  rw [List.getElem_drop]
  have hkl:k < L.length:=by omega
  have h3:=h2 hkl
  have h4:L[k].1≤L[k+j].1:=by
   by_cases h0:j=0
   · subst h0; exact Int.le_refl _
   · exact Int.le_of_lt (List.pairwise_iff_getElem.1 hup k (k+j) hkl (by omega) (by omega))
  have h5:=hpos _ (List.getElem_mem hkl)
  rw [Int.tdiv_eq_ediv_of_nonneg h5] at h3
  simp only [decide_eq_true_eq]
  rw [Int.tdiv_eq_ediv_of_nonneg (by omega)]
  omega
 rw [e1,e2,List.append_nil]
theorem ta_und:Tryz.prog.underlying 40=some (.slice (Tryz.prog.elem 40)):=by kernel_rfl
theorem ta_elem:Tryz.prog.elem 40=108:=by kernel_rfl
theorem ta_size:∀ w,(sizeOf 108).run Tryz.prog w=.ok 12 w:=fun w=>by kernel_rfl
theorem entsV_take (q:List Qe) (k:Nat) (hk:k≤q.length):entsV (q.take k)=(entsV q).take (k*12):=by
 have e:entsV (q.take k++q.drop k)=entsV (q.take k)++entsV (q.drop k):=by unfold entsV; rw [List.flatMap_append]
 rw [List.take_append_drop] at e
 have hl:(entsV (q.take k)).length=k*12:=by rw [entsV_len,List.length_take,Nat.min_eq_left hk]
 rw [e,← hl,List.take_left]
theorem ta_upto {w:World} {B:Nat} {v:Value} {q:List Qe} (h:OwnE w B v q) (p:Nat) (hp:p≤q.length) :
 ∃ y,(∀ W,(Instr.slice 40 v none (some (.int .i64 p)) none).run Tryz.prog W=.ok y W)∧∀ W,OwnE W B v q→Src W 12 y p (entsV (q.take p)):=by
 have hone:∀ W,OwnE W B v q→∀ u ∈ entsV (q.take p),u.oneCell' = true:=fun W hW=>entsV_one _ fun x hx=>⟨W,hW.lists x (List.mem_of_mem_take hx)⟩
 have hl:(entsV (q.take p)).length=p*12:=by rw [entsV_len,List.length_take,Nat.min_eq_left hp]
 rcases own_any h.own with ⟨rfl,h0,_⟩ | ⟨g,cap,rfl,hc,_⟩
 ·obtain rfl:p=0:=by omega
  refine ⟨.slice none 0 0,fun W=>?_,fun W hW=>⟨hl,hone W hW,.inl ⟨rfl,rfl⟩⟩⟩
  have:=run_slice_h (P:=Tryz.prog) W 40 none 0 0 ta_und .i64 0 (by omega) (by omega)
  rw [ta_elem,ta_size] at this
  exact this
 ·refine ⟨.slice (some ⟨g,0,none⟩) p cap,fun W=>?_,fun W hW=>⟨hl,hone W hW,.inr ⟨_,cap,rfl,fun j u hj=>?_⟩⟩⟩
  ·have:=run_slice_h (P:=Tryz.prog) W 40 (some ⟨g,0,none⟩) q.length cap ta_und .i64 p (by omega) (by omega)
   rw [ta_elem,ta_size] at this
   simp only [sliced,Result.andThen,Int.toNat_natCast] at this
   rw [this]
   by_cases hcap:cap=0
   · subst hcap; simp
   ·rw [if_neg hcap]
    simp [Addr.add]
  ·rw [entsV_take q p hp] at hj
   refine hW.own.cells (g:=g) rfl j u ?_
   rw [List.getElem?_take] at hj
   split at hj
   · exact hj
   · cases hj
theorem TpR.added {w w8 w9:World} {F:Foot} {g:Nat} {t:Tp} {v v':Value} {q qr:List Qe} (h:TpR w F g t v q) (hb:Below w.heap.size w w8) (hl:∀ x ∈ qr,Lists w8 x.r x.vt x.vp) (hf:FreshQ w.heap.size qr)
 (ho:w9.ownsRow 0 108 12 v' (q.length+qr.length) (entsV q++entsV qr)) (hg:w8.grownBy w9 v.ownBlock) (hat:v'.ownBlock=v.ownBlock∨v'.ownBlock=some w8.heap.size) :
 Blk w9 g 95 (tpCells t v)∧TpR (w9.setCell ⟨g,1,none⟩ v') (fun b=>F b∨(w.heap.size≤b∧b < w9.heap.size)) g { t with l:=t.l++qr.map Qe.ent } v' (q++qr)∧Step F (fun b=>F b∨(w.heap.size≤b∧b < w9.heap.size)) w (w9.setCell ⟨g,1,none⟩ v'):=by
 have r8:=h.below hb
 have hon:Only (fun b=>v.ownBlock=some b) w8 w9:=(Only.refl _ w8).grown hg fun b hb=>.inl hb
 have B9:Blk w9 g 95 (tpCells t v):=(hg.block g r8.head.lt fun e=>h.vg e.symm).trans r8.head
 have hvg:v'.ownBlock≠some g:=own_blk ho B9 (by decide)
 have hne:∀ b,v'.ownBlock=some b→b≠g:=fun b hb e=>by subst e; exact hvg hb
 have ho10:(w9.setCell ⟨g,1,none⟩ v').ownsRow 0 108 12 v' (q.length+qr.length) (entsV q++entsV qr):=own_keep ho fun b hb=>heap_setCell_other w9 ⟨g,1,none⟩ b _ (hne b hb)
 have hold:∀ x ∈ qr,∀ b,(rows3 x.r.txns≠[]→x.vt.ownBlock=some b→w.heap.size≤b∧b < w8.heap.size)∧(rows2 x.r.pages≠[]→x.vp.ownBlock=some b→w.heap.size≤b∧b < w8.heap.size):=fun x hx b =>
  ⟨fun hr hv=>⟨(hf x hx).1 hr b hv,(hl x hx).t.blt hr b hv⟩,fun hr hv=>⟨(hf x hx).2 hr b hv,(hl x hx).p.blt hr b hv⟩⟩
 have hvlt:∀ b,v.ownBlock=some b→b < w.heap.size:=fun b hb=>h.lt b (h.fv b hb)
 have hgl:g < w.heap.size:=h.lt g h.fg
 have hs8:=hb.size
 have hs9:=hg.size
 -- rows of all
 have hrows:∀ x ∈ q++qr,Lists (w9.setCell ⟨g,1,none⟩ v') x.r x.vt x.vp∧Apart v' x:=fun x hx=>by
  have hon2:Only (fun b=>v.ownBlock=some b∨b=g) w8 (w9.setCell ⟨g,1,none⟩ v'):=((Only.refl _ w8).grown hg fun b hb=>.inl (.inl hb)).set (p:=⟨g,1,none⟩) (.inl (.inr rfl)) _
  rcases List.mem_append.1 hx with hx | hx
  ·have hfr:=h.fr x hx
   have hap:=h.own.apart x hx
   have hll:=r8.own.lists x hx
   have hng:∀ b,F b→b < w.heap.size:=h.lt
   refine ⟨hll.keepA hon2 (fun hr b hb e=>?_) (fun hr b hb e=>?_),fun b hb=>⟨fun hr e=>?_,fun hr e=>?_⟩⟩
   ·rcases e with e | e
    · exact (hap b e).1 hr hb
    · exact (hfr.1 hr b hb).2 e
   ·rcases e with e | e
    · exact (hap b e).2 hr hb
    · exact (hfr.2 hr b hb).2 e
   ·rcases hat with hat | hat
    · exact (hap b (hat ▸ hb)).1 hr e
    ·have:=h.lt b (hfr.1 hr b e).1
     rw [hat] at hb
     cases hb
     omega
   ·rcases hat with hat | hat
    · exact (hap b (hat ▸ hb)).2 hr e
    ·have:=h.lt b (hfr.2 hr b e).1
     rw [hat] at hb
     cases hb
     omega
  ·have hll:=hl x hx
   refine ⟨hll.keepA hon2 (fun hr b hb e=>?_) (fun hr b hb e=>?_),fun b hb=>⟨fun hr e=>?_,fun hr e=>?_⟩⟩
   ·have h1:=(hold x hx b).1 hr hb
    rcases e with e | e
    · have:=hvlt b e; omega
    · omega
   ·have h1:=(hold x hx b).2 hr hb
    rcases e with e | e
    · have:=hvlt b e; omega
    · omega
   ·have h1:=(hold x hx b).1 hr e
    rcases hat with hat | hat
    · have:=hvlt b (hat ▸ hb); omega
    · rw [hat] at hb; cases hb; omega
   ·have h1:=(hold x hx b).2 hr e
    rcases hat with hat | hat
    · have:=hvlt b (hat ▸ hb); omega
    · rw [hat] at hb; cases hb; omega
 refine ⟨B9,⟨B9.set 1 v',⟨by rw [List.length_append,show entsV (q++qr)=entsV q++entsV qr by unfold entsV; rw [List.flatMap_append]]; exact ho10,fun x hx=>(hrows x hx).1,fun x hx=>(hrows x hx).2⟩,by rw [List.map_append,h.ents],.inl h.fg,fun b hb=>?_,fun x hx=>?_,fun b hF=>?_⟩,?_⟩
 ·rcases hat with hat | hat
  · exact .inl (h.fv b (hat ▸ hb))
  ·rw [hat] at hb
   cases hb
   exact .inr ⟨hs8,(ho.lt _ hat).2⟩
 ·rcases List.mem_append.1 hx with hx | hx
  · exact ⟨fun hr b hb=>⟨.inl ((h.fr x hx).1 hr b hb).1,((h.fr x hx).1 hr b hb).2⟩,fun hr b hb=>⟨.inl ((h.fr x hx).2 hr b hb).1,((h.fr x hx).2 hr b hb).2⟩⟩
  · exact ⟨fun hr b hb=>by have:=(hold x hx b).1 hr hb; exact ⟨.inr (by omega),by omega⟩,fun hr b hb=>by have:=(hold x hx b).2 hr hb; exact ⟨.inr (by omega),by omega⟩⟩
 ·simp only [World.setCell]
  simp
  rcases hF with hF | hF
  · have:=h.lt b hF; omega
  · exact hF.2
 ·refine Step.set (w':=w9) ?_ (p:=⟨g,1,none⟩) (.inl h.fg) _
  exact ⟨hon.os.trans hb.os,hon.tape.trans hb.tape,hon.output.trans hb.output,by omega,fun b hlt hF=>(hon.block b (by omega) fun e=>hF (h.fv b e)).trans (hb.block b hlt),fun b hF=>hF.elim .inl fun e=>.inr e.1⟩
end Go.Proofs.YthkbcfhjmnpggaaGreat
