/- Texts that belong together, joined: Ent, EntP, Dk, Crc, SlabA. -/
import Derived.Test.YthkbcfhjmnpggaaGreatK07
import Derived.Test.YthkbcfhjmnpggaaGreatK02
import Derived.Test.YthkbcfhjmnpggaaGreatK05
import Derived.Test.YthkbcfhjmnpggaaGreatK00
import Derived.Test.YthkbcfhjmnpggaaGreatRows
namespace Go.Proofs.YthkbcfhjmnpggaaGreat
open Go.RowKit
abbrev Ent:=Int × Rc
def EntsAt (w:World) (a:Option Addr) (l:List Ent):Prop :=
 ∀ j (hj:j < l.length),∃ b off vt vp,a=some ⟨b,off,none⟩∧b < w.heap.size∧w.cell? ⟨b,off+j*12,none⟩=some (.int .i64 l[j].1) ∧
  (∀ i x,(recCells l[j].2 vt vp)[i]? = some x→w.cell? ⟨b,off+j*12+1+i,none⟩=some x)∧Lists w l[j].2 vt vp
theorem EntsAt.keep {w w':World} {a:Option Addr} {l:List Ent} (h:EntsAt w a l) (hb:Below w.heap.size w w'):EntsAt w' a l:=by
 intro j hj
 obtain ⟨b,off,vt,vp,rfl,hlt,c0,ci,hl⟩:=h j hj
 refine ⟨b,off,vt,vp,rfl,Nat.lt_of_lt_of_le hlt hb.size,?_,fun i x hi=>?_,hl.keep hb⟩
 · rw [hb.cell (p:=⟨b,off+j*12,none⟩) hlt]; exact c0
 · rw [hb.cell (p:=⟨b,off+j*12+1+i,none⟩) hlt]; exact ci i x hi
def IsEnts (w:World) (v:Value) (l:List Ent):Prop :=
 ∃ (a:Option Addr) (cap:Nat),v=.slice a l.length cap∧l.length≤cap∧cap≤maxLen∧EntsAt w a l
namespace IsEnts
variable {w w':World} {v:Value} {l:List Ent}
theorem nil (w:World):IsEnts w (.slice none 0 0) []:=⟨none,0,rfl,Nat.le_refl _,Nat.zero_le _,fun j hj=>by simp at hj⟩
theorem keep (h:IsEnts w v l) (hb:Below w.heap.size w w'):IsEnts w' v l:=by
 obtain ⟨a,cap,rfl,h1,h2,hx⟩:=h
 exact ⟨a,cap,rfl,h1,h2,hx.keep hb⟩
end IsEnts
theorem ents_at {l m:List Ent} (h:l=m) (j:Nat) (hj:j < l.length) (hm:j < m.length):l[j]=m[j]:=by subst h; rfl
theorem ents_eq {l m:List Ent} (hn:l.length=m.length) (h:∀ j (hj:j < l.length) (hm:j < m.length),j < l.length→l[j]=m[j]):l=m:=List.ext_getElem hn fun j h1 h2=>h j h1 h2 h1
set_option maxRecDepth 100000 in
set_option maxHeartbeats 16000000 in
theorem refSameAll_any {w:World} {va vb:Value} {l m:List Ent} (ha:IsEnts w va l) (hb:IsEnts w vb m) (yes:Bool) (hy:yes=decide (l=m)) :
 Calls Tryz.prog 29 #[va,vb] w fun e w'=>e=.returned (.bool yes)∧Below w.heap.size w w':=by
 have HA:=Lib.hid ha
 have HB:=Lib.hid hb
 obtain ⟨a,ca,rfl,hl1,hl2,hax⟩:=ha
 obtain ⟨b,cb,rfl,hm1,hm2,hbx⟩:=hb
 have AX:=Lib.hid hax
 have BXX:=Lib.hid hbx
 unfold maxLen at hl2 hm2
 have HY:=Lib.hid hy
 clear hy hax hbx HA HB
 by_cases hn:l.length=m.length
 ·rw [hn]
  go_enter Tryz.func29,Tryz.ntmps29
  go_wp2_with fail
  have EA:=AX
  have EB:=BXX
  clear AX BXX
  go_loopw [5] (fun vk wr=>∃ k:Nat,k≤m.length∧vk=.int .i64 k∧(∀ j (hj:j < l.length) (hm:j < m.length),j < k→l[j]=m[j])∧Below w.heap.size w wr) (fun vk _=>m.length - (intOf vk).toNat)
  case atStart=>exact ⟨0,Nat.zero_le _,rfl,fun j _ _ h=>by omega,Below.refl _ _⟩
  case round =>
   obtain ⟨k,hk,rfl,hno,hB⟩:=hrel
   have HNO:=Lib.hid hno
   have HBK:=Lib.hid hB
   clear hno hB
   by_cases hlt2:k < m.length
   ·have hlt:k < l.length:=by omega
    obtain ⟨b1,o1,vt,vp,rfl,lt1,d0,da,la⟩:=(EA.out.keep HBK.out) k hlt
    obtain ⟨b2,o2,ut,up,rfl,lt2,d1,db,lb⟩:=(EB.out.keep HBK.out) k hlt2
    have LA:=Lib.hid la
    have LB:=Lib.hid lb
    have HKK:Hid (l[k]=m[k]→∀ j (hj:j < l.length) (hm:j < m.length),j < k+1→l[j]=m[j]):=fun h j hj hm hjk=>by
     by_cases e:j=k
     · subst e; exact h
     · exact HNO.out j hj hm (by omega)
    have HNN:Hid (¬ l[k]=m[k]→yes=false):=fun h=>by rw [HY.out]; exact decide_eq_false fun e=>h (ents_at e k hlt hlt2)
    have HEQ:Hid (l[k]=m[k]↔l[k].1=m[k].1∧l[k].2=m[k].2):=⟨fun h=>by rw [h]; exact ⟨rfl,rfl⟩,fun h=>Prod.ext h.1 h.2⟩
    have EX:=Lib.hid (show ∀ W,Below wr.drew.heap.size wr.drew W→W.cell? ⟨b1,o1+k*12,none⟩=some (.int .i64 l[k].1)∧W.cell? ⟨b2,o2+k*12,none⟩=some (.int .i64 m[k].1) from
     fun W h=>⟨(h.cell (p:=⟨b1,o1+k*12,none⟩) lt1).trans d0,(h.cell (p:=⟨b2,o2+k*12,none⟩) lt2).trans d1⟩)
    generalize (l[k]=m[k])=EQ at *
    generalize l[k].1=e1 at *
    generalize l[k].2=x at *
    generalize m[k].1=e2 at *
    generalize m[k].2=y at *
    have AR:=Lib.hid (show ∀ W,Below wr.drew.heap.size wr.drew W→W.cell? ⟨b1,o1+k*12+1,none⟩=some (.int .i64 x.kind)∧W.cell? ⟨b1,o1+k*12+1+1,none⟩=some (.int .i64 x.txn)∧W.cell? ⟨b1,o1+k*12+1+2,none⟩=some (.int .i64 x.page)∧W.cell? ⟨b1,o1+k*12+1+3,none⟩=some (.int .i64 x.off)∧W.cell? ⟨b1,o1+k*12+1+4,none⟩=some (.int .i64 x.prev)∧W.cell? ⟨b1,o1+k*12+1+5,none⟩=some (.int .i64 x.next)∧W.cell? ⟨b1,o1+k*12+1+6,none⟩=some (.int .i64 x.beg)∧W.cell? ⟨b1,o1+k*12+1+7,none⟩=some (.string x.before)∧W.cell? ⟨b1,o1+k*12+1+8,none⟩=some (.string x.after)∧W.cell? ⟨b1,o1+k*12+1+9,none⟩=some vt∧W.cell? ⟨b1,o1+k*12+1+10,none⟩=some vp from
     fun W h=>⟨(h.cell (p:=⟨b1,o1+k*12+1+0,none⟩) lt1).trans (da 0 _ rfl),(h.cell (p:=⟨b1,o1+k*12+1+1,none⟩) lt1).trans (da 1 _ rfl),(h.cell (p:=⟨b1,o1+k*12+1+2,none⟩) lt1).trans (da 2 _ rfl),(h.cell (p:=⟨b1,o1+k*12+1+3,none⟩) lt1).trans (da 3 _ rfl),(h.cell (p:=⟨b1,o1+k*12+1+4,none⟩) lt1).trans (da 4 _ rfl),(h.cell (p:=⟨b1,o1+k*12+1+5,none⟩) lt1).trans (da 5 _ rfl),(h.cell (p:=⟨b1,o1+k*12+1+6,none⟩) lt1).trans (da 6 _ rfl),(h.cell (p:=⟨b1,o1+k*12+1+7,none⟩) lt1).trans (da 7 _ rfl),(h.cell (p:=⟨b1,o1+k*12+1+8,none⟩) lt1).trans (da 8 _ rfl),(h.cell (p:=⟨b1,o1+k*12+1+9,none⟩) lt1).trans (da 9 _ rfl),(h.cell (p:=⟨b1,o1+k*12+1+10,none⟩) lt1).trans (da 10 _ rfl)⟩)
    have BR:=Lib.hid (show ∀ W,Below wr.drew.heap.size wr.drew W→W.cell? ⟨b2,o2+k*12+1,none⟩=some (.int .i64 y.kind)∧W.cell? ⟨b2,o2+k*12+1+1,none⟩=some (.int .i64 y.txn)∧W.cell? ⟨b2,o2+k*12+1+2,none⟩=some (.int .i64 y.page)∧W.cell? ⟨b2,o2+k*12+1+3,none⟩=some (.int .i64 y.off)∧W.cell? ⟨b2,o2+k*12+1+4,none⟩=some (.int .i64 y.prev)∧W.cell? ⟨b2,o2+k*12+1+5,none⟩=some (.int .i64 y.next)∧W.cell? ⟨b2,o2+k*12+1+6,none⟩=some (.int .i64 y.beg)∧W.cell? ⟨b2,o2+k*12+1+7,none⟩=some (.string y.before)∧W.cell? ⟨b2,o2+k*12+1+8,none⟩=some (.string y.after)∧W.cell? ⟨b2,o2+k*12+1+9,none⟩=some ut∧W.cell? ⟨b2,o2+k*12+1+10,none⟩=some up from
     fun W h=>⟨(h.cell (p:=⟨b2,o2+k*12+1+0,none⟩) lt2).trans (db 0 _ rfl),(h.cell (p:=⟨b2,o2+k*12+1+1,none⟩) lt2).trans (db 1 _ rfl),(h.cell (p:=⟨b2,o2+k*12+1+2,none⟩) lt2).trans (db 2 _ rfl),(h.cell (p:=⟨b2,o2+k*12+1+3,none⟩) lt2).trans (db 3 _ rfl),(h.cell (p:=⟨b2,o2+k*12+1+4,none⟩) lt2).trans (db 4 _ rfl),(h.cell (p:=⟨b2,o2+k*12+1+5,none⟩) lt2).trans (db 5 _ rfl),(h.cell (p:=⟨b2,o2+k*12+1+6,none⟩) lt2).trans (db 6 _ rfl),(h.cell (p:=⟨b2,o2+k*12+1+7,none⟩) lt2).trans (db 7 _ rfl),(h.cell (p:=⟨b2,o2+k*12+1+8,none⟩) lt2).trans (db 8 _ rfl),(h.cell (p:=⟨b2,o2+k*12+1+9,none⟩) lt2).trans (db 9 _ rfl),(h.cell (p:=⟨b2,o2+k*12+1+10,none⟩) lt2).trans (db 10 _ rfl)⟩)
    clear la lb d0 d1 da db
    by_cases he:e1=e2
    ·subst he
     generalize hsm:decide (x=y)=sm
     have HSM:=Lib.hid hsm.symm
     clear hsm
     go_wp2_with fail
     refine' wp_region_conf 25 (.is _::.is _::.is _::.is _::.is _::.is _::.is _::.is _::.is _::.is _::.is _::.is _::.is _::.is _::.is _::.is _::.is _::.is _::.is _::.is _::.is _::.is _::.is _::.is _::.is _::[]) (by kernel_rfl) (by kernel_rfl) (by kernel_rfl) (by kernel_rfl) rfl ?main
     case main =>
      iterate 4
       apply obs_step
       · rfl
       ·intro w4 hE4 hk
        clear hk hE4
        go_wp2
        refine post_eq ?_ (Below.refl _ _)
        simp only [Act.put,sA,sB,sC]
        try rfl
       ·simp only [Act.put,sA,sB,sC]
        rfl
      apply obs_step
      · rfl
      ·intro w4 hE4 hk
       have f:=EX.out w4 hE4
       have f0:=f.1
       have f1:=f.2
       clear f hk hE4
       go_wp2
       refine post_eq ?_ (Below.refl _ _)
       simp only [Act.put,sA,sB,sC]
       try rfl
      iterate 4
       ·simp only [Act.put,sA,sB,sC]
        rfl
       apply obs_step
       · rfl
       ·intro w4 hE4 hk
        clear hk hE4
        go_wp2
        refine post_eq ?_ (Below.refl _ _)
        simp only [Act.put,sA,sB,sC]
        try rfl
      ·simp only [Act.put,sA,sB,sC]
       rfl
      apply obs_step
      · rfl
      ·intro w4 hE4 hk
       have f:=EX.out w4 hE4
       have f0:=f.1
       have f1:=f.2
       clear f hk hE4
       go_wp2
       refine post_eq ?_ (Below.refl _ _)
       simp only [Act.put,sA,sB,sC]
       try rfl
      iterate 6
       ·simp only [Act.put,sA,sB,sC]
        rfl
       apply obs_step
       · rfl
       ·intro w4 hE4 hk
        clear hk hE4
        go_wp2
        refine post_eq ?_ (Below.refl _ _)
        simp only [Act.put,sA,sB,sC]
        try rfl
      ·simp only [Act.put,sA,sB,sC]
       rfl
      apply obs_step
      · rfl
      ·intro w4 hE4 hk
       obtain ⟨f0,f1,f2,f3,f4,f5,f6,f7,f8,f9,f10⟩:=AR.out w4 hE4
       clear hk hE4
       go_wp2
       refine post_eq ?_ (Below.refl _ _)
       simp only [Act.put,sA,sB,sC]
       try rfl
      iterate 4
       ·simp only [Act.put,sA,sB,sC]
        rfl
       apply obs_step
       · rfl
       ·intro w4 hE4 hk
        clear hk hE4
        go_wp2
        refine post_eq ?_ (Below.refl _ _)
        simp only [Act.put,sA,sB,sC]
        try rfl
      ·simp only [Act.put,sA,sB,sC]
       rfl
      apply obs_step
      · rfl
      ·intro w4 hE4 hk
       obtain ⟨f0,f1,f2,f3,f4,f5,f6,f7,f8,f9,f10⟩:=BR.out w4 hE4
       clear hk hE4
       go_wp2
       refine post_eq ?_ (Below.refl _ _)
       simp only [Act.put,sA,sB,sC]
       try rfl
      ·simp only [Act.put,sA,sB,sC]
       rfl
      apply obs_step
      · rfl
      ·intro w4 hE4 hk
       have L1:=LA.out.keep (((Below.refl wr.heap.size wr).drew).trans hE4)
       have L2:=LB.out.keep (((Below.refl wr.heap.size wr).drew).trans hE4)
       clear hk hE4
       go_wp2_with fail
       refine (refSame_any (va:=recV x vt vp) (vb:=recV y ut up) (a:=x) (b:=y) ⟨vt,vp,rfl,L1⟩ ⟨ut,up,rfl,L2⟩ sm HSM.out).mono ?_
       rintro e w5 ⟨rfl,hb5⟩
       go_wp2
       refine post_eq ?_ (hb5)
       simp only [Act.put,sA,sB,sC]
       try rfl
      iterate 2
       ·simp only [Act.put,sA,sB,sC]
        rfl
       apply obs_step
       · rfl
       ·intro w4 hE4 hk
        clear hk hE4
        go_wp2
        refine post_eq ?_ (Below.refl _ _)
        simp only [Act.put,sA,sB,sC]
        try rfl
      ·simp only [Act.put,sA,sB,sC]
       rfl
      refine obs_end fun w6 hE6 _=>?_
      have HBW:=Lib.hid (below2 HBK.out (((Below.refl wr.heap.size wr).drew).trans hE6))
      clear HBK hE6 AR BR EX LA LB
      cases sm
      ·have hno:yes=false:=HNN.out fun h=>absurd (HEQ.out.1 h).2 (of_decide_eq_false HSM.out.symm)
       subst hno
       clear HY HNN HKK HEQ
       go_wp2
       go_ret
       exact ⟨rfl,HBW.out⟩
      ·have HN2:=Lib.hid (HKK.out (HEQ.out.2 ⟨(by first | rfl | trivial),of_decide_eq_true HSM.out.symm⟩))
       clear HNN HKK HEQ
       go_wp2
       go_roundw
       case rel=>exact ⟨k+1,by omega,by go_num,HN2.out,HBW.out⟩
       case measure=>simp [intOf]; omega
    ·have he':(e1 != e2)=true:=by simpa using he
     have hno:yes=false:=HNN.out fun h=>he (HEQ.out.1 h).1
     subst hno
     clear HY HNN HKK HEQ
     go_wp2_with fail
     refine' wp_region_conf 25 (.is _::.is _::.is _::.is _::.is _::.is _::.is _::.is _::.is _::.is _::.is _::.is _::.is undef::.is undef::.is undef::.is undef::.is undef::.is undef::.is undef::.is undef::.is undef::.is undef::.is undef::.is undef::.is _::[]) (by kernel_rfl) (by kernel_rfl) (by kernel_rfl) (by kernel_rfl) rfl ?main
     case main =>
      iterate 4
       apply obs_step
       · rfl
       ·intro w4 hE4 hk
        clear hk hE4
        go_wp2
        refine post_eq ?_ (Below.refl _ _)
        simp only [Act.put,sA,sB,sC]
        try rfl
       ·simp only [Act.put,sA,sB,sC]
        rfl
      apply obs_step
      · rfl
      ·intro w4 hE4 hk
       have f:=EX.out w4 hE4
       have f0:=f.1
       have f1:=f.2
       clear f hk hE4
       go_wp2
       refine post_eq ?_ (Below.refl _ _)
       simp only [Act.put,sA,sB,sC]
       try rfl
      iterate 4
       ·simp only [Act.put,sA,sB,sC]
        rfl
       apply obs_step
       · rfl
       ·intro w4 hE4 hk
        clear hk hE4
        go_wp2
        refine post_eq ?_ (Below.refl _ _)
        simp only [Act.put,sA,sB,sC]
        try rfl
      ·simp only [Act.put,sA,sB,sC]
       rfl
      apply obs_step
      · rfl
      ·intro w4 hE4 hk
       have f:=EX.out w4 hE4
       have f0:=f.1
       have f1:=f.2
       clear f hk hE4
       go_wp2
       refine post_eq ?_ (Below.refl _ _)
       simp only [Act.put,sA,sB,sC]
       try rfl
      iterate 2
       ·simp only [Act.put,sA,sB,sC]
        rfl
       apply obs_step
       · rfl
       ·intro w4 hE4 hk
        clear hk hE4
        go_wp2
        refine post_eq ?_ (Below.refl _ _)
        simp only [Act.put,sA,sB,sC]
        try rfl
      iterate 12
       ·simp only [Act.put,sA,sB,sC]
        rfl
       apply obs_skip
       · rfl
      ·simp only [Act.put,sA,sB,sC]
       rfl
      apply obs_step
      · rfl
      ·intro w4 hE4 hk
       clear hk hE4
       go_wp2
       refine post_eq ?_ (Below.refl _ _)
       simp only [Act.put,sA,sB,sC]
       try rfl
      ·simp only [Act.put,sA,sB,sC]
       rfl
      refine obs_end fun w6 hE6 _=>?_
      have HBW:=Lib.hid (below2 HBK.out (((Below.refl wr.heap.size wr).drew).trans hE6))
      clear HBK hE6 AR BR EX LA LB
      go_wp2
      go_ret
      exact ⟨rfl,HBW.out⟩
   ·have hyes:yes=true:=by rw [HY.out]; exact decide_eq_true (ents_eq hn fun j hj hm _=>HNO.out j hj hm (by omega))
    subst hyes
    clear HY HNO
    go_wp2
    go_ret
    exact ⟨rfl,HBK.out⟩
 ·have hn':¬ (l.length:Int)=(m.length:Int):=by omega
  have hno:yes=false:=by rw [HY.out]; exact decide_eq_false fun h=>hn (by rw [h])
  subst hno
  clear HY
  go_enter Tryz.func29,Tryz.ntmps29
  go_wp2
  go_ret
  exact ⟨rfl,Below.refl _ _⟩
end Go.Proofs.YthkbcfhjmnpggaaGreat

namespace Go.Proofs.YthkbcfhjmnpggaaGreat
open Go.RowKit
def allL:Nat→Int→List UInt8→Option (List Ent)
 | _,_,[]=>some []
 | 0,_,_::_=>none
 | n+1,at_,b::l=>(recP (b::l)).bind fun x=>(allL n (at_+((b::l).length:Int) - (x.2.length:Int)) x.2).map ((at_,x.1)::·)
theorem lay_pos {r:Rc} (h:May r):0 < (lay r).length:=by
 rcases lay_long h with ⟨_,hl⟩ | ⟨_,hl⟩ | ⟨_,hl⟩ | ⟨_,hl⟩ | ⟨_,hl⟩ | ⟨_,hl⟩ <;> omega
theorem recP_less {l r:List UInt8} {x:Rc} (h:recP l=some (x,r)):r.length < l.length:=by
 obtain ⟨hm,rfl⟩:=recP_some h
 have:=lay_pos hm
 simp
 omega
theorem allL_step {n:Nat} {at_:Int} {l r:List UInt8} {x:Rc} (h:recP l=some (x,r)):allL (n+1) at_ l=(allL n (at_+(l.length:Int) - (r.length:Int)) r).map ((at_,x)::·):=by
 cases l with
 | nil=>have:=recP_less h; simp at this
 | cons b l=>simp only [allL,h,Option.bind_some]
theorem allL_stop {n:Nat} {at_:Int} {l:List UInt8} (hl:l≠[]) (h:recP l=none):allL n at_ l=none:=by
 cases l with
 | nil=>exact absurd rfl hl
 | cons b l=>cases n with
   | zero=>rfl
   | succ n=>simp only [allL,h,Option.bind_none]
theorem allL_fuel:∀ (n m:Nat) (at_:Int) (l:List UInt8),l.length≤n→l.length≤m→allL n at_ l=allL m at_ l
 | n,m,at_,[]=>fun _ _=>by cases n <;> cases m <;> rfl
 | 0,_,_,_::_=>fun h _=>by simp at h
 | _,0,_,_::_=>fun _ h=>by simp at h
 | n+1,m+1,at_,b::l=>fun h1 h2=>by
   cases hp:recP (b::l) with
   | none=>rw [allL_stop (by simp) hp,allL_stop (by simp) hp]
   | some x =>
     have hx:recP (b::l)=some (x.1,x.2):=hp
     have hls:=recP_less hx
     simp only [List.length_cons] at h1 h2 hls
     rw [allL_step hx,allL_step hx,allL_fuel n m _ x.2 (by omega) (by omega)]
def entsOf:Int→List Rc→List Ent
 | _,[]=>[]
 | at_,r::rs=>(at_,r)::entsOf (at_+(lay r).length) rs
theorem allL_lay:∀ (rs:List Rc) (_:∀ r ∈ rs,May r) (n:Nat) (at_:Int),(rs.flatMap lay).length≤n→allL n at_ (rs.flatMap lay)=some (entsOf at_ rs)
 | [],_,n,at_,_=>by cases n <;> rfl
 | r::rs,h,n,at_,hn=>by
   have hm:=h r (by simp)
   have hp:=lay_pos hm
   rw [List.flatMap_cons] at hn ⊢
   rw [List.length_append] at hn
   cases n with
   | zero=>omega
   | succ n =>
     rw [allL_step (recP_lay hm (rs.flatMap lay)),show at_+((lay r++rs.flatMap lay).length:Int) - ((rs.flatMap lay).length:Int)=at_+(lay r).length from by simp; omega,
      allL_lay rs (fun x hx=>h x (by simp [hx])) n _ (by omega)]
     rfl
def Along (l0:List UInt8) (es:List Ent) (at_:Nat) (l:List UInt8):Prop :=
 at_≤l0.length∧l=l0.drop at_∧allL l0.length 0 l0=(allL l.length at_ l).map (es++·)
namespace Along
variable {l0 l r:List UInt8} {es:List Ent} {at_:Nat} {x:Rc}
theorem start (l0:List UInt8):Along l0 [] 0 l0:=⟨Nat.zero_le _,rfl,by show _=Option.map _ (allL l0.length 0 l0); cases allL l0.length 0 l0 <;> rfl⟩
theorem done (h:Along l0 es at_ l) (he:l = []):allL l0.length 0 l0=some es:=by
 rw [h.2.2,he]
 simp [allL]
theorem stop (h:Along l0 es at_ l) (hl:l≠[]) (hp:recP l=none):allL l0.length 0 l0=none:=by
 rw [h.2.2,allL_stop hl hp]; rfl
theorem step (h:Along l0 es at_ l) (hp:recP l=some (x,r)):Along l0 (es++[((at_:Int),x)]) (l0.length - r.length) r:=by
 obtain ⟨h1,rfl,h3⟩:=h
 have hls:=recP_less hp
 obtain ⟨hm,hlr⟩:=recP_some hp
 have hlen:(l0.drop at_).length=l0.length - at_:=by simp
 have hll:(l0.drop at_).length=(lay x).length+r.length:=by rw [hlr]; simp
 refine ⟨by omega,?_,?_⟩
 ·have e:l0.length - r.length=at_+(lay x).length:=by omega
  rw [e,← List.drop_drop,hlr,List.drop_left' rfl]
 ·rw [h3,allL_fuel _ ((l0.drop at_).length+1) _ _ (Nat.le_refl _) (Nat.le_succ _),allL_step hp,allL_fuel _ r.length _ r (by omega) (Nat.le_refl _)]
  rw [show (at_:Int)+((l0.drop at_).length:Int) - (r.length:Int)=((l0.length - r.length:Nat):Int) from by omega]
  cases allL r.length _ r <;> simp
end Along
end Go.Proofs.YthkbcfhjmnpggaaGreat

namespace Go.Proofs.YthkbcfhjmnpggaaGreat
theorem snoc_ind {α:Type} {p:List α→Prop} (h0:p []) (h1:∀ l x,p l→p (l++[x])) (l:List α):p l:=by
 have h:∀ r:List α,p r.reverse:=fun r=>by
  induction r with
  | nil=>exact h0
  | cons x r ih=>rw [List.reverse_cons]; exact h1 _ _ ih
 have:=h l.reverse
 rwa [List.reverse_reverse] at this
def zero128:ByteArray:=⟨(List.replicate 128 0).toArray⟩
theorem zero128_size:zero128.size=128:=by simp [zero128,ByteArray.size]
structure Dk where
 safe:List ByteArray
 waits:List (Nat × ByteArray)
 gone:Bool
 fuse:Option Nat
def lastOf (l:List (Nat × ByteArray)) (i:Int):Option ByteArray:=l.foldl (fun o x=>if (x.1:Int)=i then some x.2 else o) none
theorem lastOf_snoc (l:List (Nat × ByteArray)) (x:Nat × ByteArray) (i:Int):lastOf (l++[x]) i=if (x.1:Int)=i then some x.2 else lastOf l i:=by simp [lastOf]
theorem lastOf_mem {l:List (Nat × ByteArray)} {i:Int} {s:ByteArray} (h:lastOf l i=some s):∃ x ∈ l,(x.1:Int)=i∧x.2=s:=by
 revert h
 refine snoc_ind (p:=fun l=>lastOf l i=some s→∃ x ∈ l,(x.1:Int)=i∧x.2=s) (fun h=>by cases h) ?_ l
 ·intro l x ih h
  rw [lastOf_snoc] at h
  by_cases g:(x.1:Int)=i
  ·rw [if_pos g] at h
   exact ⟨x,by simp,g,Option.some.inj h⟩
  ·rw [if_neg g] at h
   obtain ⟨y,hy,k⟩:=ih h
   exact ⟨y,by simp [hy],k⟩
def fate (p:List UInt8) (j:Nat):Nat:=if p.length=0 then 0 else (p.getD (j % p.length) 0).toNat % 3
theorem fate_lt (p:List UInt8) (j:Nat):fate p j < 3:=by unfold fate; split <;> omega
def settleOne (f:Nat) (x:Nat × ByteArray) (s:List ByteArray):List ByteArray:=if f=1 then s.set x.1 x.2 else if f=2 then s.set x.1 zero128 else s
def settleTo (f:Nat→Nat) (l:List (Nat × ByteArray)) (s:List ByteArray):Nat→List ByteArray
 | 0=>s
 | k+1=>match l[k]? with
   | some x=>settleOne (f k) x (settleTo f l s k)
   | none=>settleTo f l s k
theorem settleOne_len (f:Nat) (x:Nat × ByteArray) (s:List ByteArray):(settleOne f x s).length=s.length:=by unfold settleOne; split <;> (try split) <;> simp
theorem settleTo_len (f:Nat→Nat) (l:List (Nat × ByteArray)) (s:List ByteArray):∀ k,(settleTo f l s k).length=s.length
 | 0=>rfl
 | k+1=>by
   unfold settleTo
   split
   · rw [settleOne_len,settleTo_len f l s k]
   · exact settleTo_len f l s k
theorem settleTo_succ (f:Nat→Nat) (l:List (Nat × ByteArray)) (s:List ByteArray) (k:Nat) (h:k < l.length):settleTo f l s (k+1)=settleOne (f k) l[k] (settleTo f l s k):=by
 rw [settleTo,List.getElem?_eq_getElem h]
namespace Dk
def new (n:Nat):Dk:=⟨List.replicate n zero128,[],false,none⟩
def bears (d:Dk):Bool:=!(d.gone || d.fuse == some 0)
def burn (d:Dk):Dk:=if d.bears then { d with fuse:=d.fuse.map (· - 1) } else { d with gone:=true }
def has (d:Dk) (i:Int):Prop:=0≤i∧i < d.safe.length
instance (d:Dk) (i:Int):Decidable (d.has i):=inferInstanceAs (Decidable (_∧_))
def writeE (d:Dk) (i:Int) (s:ByteArray):Nat:=if d.has i then if s.size=128 then if d.bears then 0 else 4 else 1 else 2
def write (d:Dk) (i:Int) (s:ByteArray):Dk:=if d.has i then if s.size=128 then if d.bears then { d.burn with waits:=d.waits++[(i.toNat,s)] } else d.burn else d else d
def settled (d:Dk) (f:Nat→Nat):List ByteArray:=settleTo f d.waits d.safe d.waits.length
def syncE (d:Dk):Nat:=if d.bears then 0 else 4
def sync (d:Dk):Dk:=if d.bears then { d.burn with safe:=d.settled fun _=>1,waits:=[] } else d.burn
def crash (d:Dk) (p:List UInt8):Dk:=⟨d.settled (fate p),[],false,none⟩
def arm (d:Dk) (k:Int):Dk:={ d with fuse:=if 0≤k then some k.toNat else none }
def reachE (d:Dk) (i:Int):Nat:=if d.gone then 4 else if d.has i then 0 else 2
def at_ (d:Dk) (i:Int):ByteArray:=(lastOf d.waits i).getD (d.safe.getD i.toNat zero128)
def read (d:Dk) (i:Int):ByteArray:=if d.reachE i=0 then d.at_ i else ⟨#[]⟩
structure Ok (d:Dk):Prop where
 pos:0 < d.safe.length
 le:d.safe.length≤512
 sect:∀ s ∈ d.safe,s.size=128
 wait:∀ x ∈ d.waits,x.1 < d.safe.length∧x.2.size=128
 fuse:∀ f,d.fuse=some f→f < 9223372036854775808
theorem Ok.new {n:Nat} (h0:0 < n) (h1:n≤512):(Dk.new n).Ok :=
 ⟨by simpa [Dk.new] using h0,by simpa [Dk.new] using h1,fun s hs=>by rw [List.eq_of_mem_replicate hs]; exact zero128_size,fun x hx=>by simp [Dk.new] at hx,fun f hf=>by cases hf⟩
theorem Ok.burn {d:Dk} (h:d.Ok):d.burn.Ok:=by
 unfold Dk.burn
 split
 ·refine ⟨h.pos,h.le,h.sect,h.wait,fun f hf=>?_⟩
  cases hd:d.fuse with
  | none=>rw [hd] at hf; cases hf
  | some g =>
    rw [hd] at hf
    simp only [Option.map_some,Option.some.injEq] at hf
    have:=h.fuse g hd
    omega
 · exact ⟨h.pos,h.le,h.sect,h.wait,h.fuse⟩
theorem burn_safe (d:Dk):d.burn.safe=d.safe:=by unfold Dk.burn; split <;> rfl
theorem burn_waits (d:Dk):d.burn.waits=d.waits:=by unfold Dk.burn; split <;> rfl
theorem Ok.write {d:Dk} (h:d.Ok) (i:Int) (s:ByteArray):(d.write i s).Ok:=by
 unfold Dk.write
 split
 ·rename_i hi
  split
  ·rename_i hs
   split
   ·have hb:=h.burn
    refine ⟨hb.pos,hb.le,hb.sect,fun x hx=>?_,hb.fuse⟩
    simp only [burn_safe]
    rcases List.mem_append.1 hx with hx | hx
    · exact h.wait x hx
    · simp at hx; subst hx; exact ⟨by have:=hi.1; have:=hi.2; simp; omega,hs⟩
   · exact h.burn
  · exact h
 · exact h
theorem settleOne_sect {f:Nat} {x:Nat × ByteArray} {s:List ByteArray} (h:∀ t ∈ s,t.size=128) (hx:x.2.size=128):∀ t ∈ settleOne f x s,t.size=128:=by
 intro t ht
 unfold settleOne at ht
 split at ht
 ·rcases List.mem_or_eq_of_mem_set ht with ht | rfl
  · exact h t ht
  · exact hx
 ·split at ht
  ·rcases List.mem_or_eq_of_mem_set ht with ht | rfl
   · exact h t ht
   · exact zero128_size
  · exact h t ht
theorem settleTo_sect {f:Nat→Nat} {l:List (Nat × ByteArray)} {s:List ByteArray} (h:∀ t ∈ s,t.size=128) (hl:∀ x ∈ l,x.2.size=128):∀ k,∀ t ∈ settleTo f l s k,t.size=128
 | 0=>h
 | k+1=>by
   unfold settleTo
   split
   ·rename_i x hx
    exact settleOne_sect (settleTo_sect h hl k) (hl x (List.mem_of_getElem? hx))
   · exact settleTo_sect h hl k
theorem Ok.settled {d:Dk} (h:d.Ok) (f:Nat→Nat):0 < (d.settled f).length∧(d.settled f).length≤512∧∀ s ∈ d.settled f,s.size=128 :=
 ⟨by unfold Dk.settled; rw [settleTo_len]; exact h.pos,by unfold Dk.settled; rw [settleTo_len]; exact h.le,settleTo_sect h.sect (fun x hx=>(h.wait x hx).2) _⟩
theorem Ok.sync {d:Dk} (h:d.Ok):d.sync.Ok:=by
 unfold Dk.sync
 split
 ·obtain ⟨a,b,c⟩:=h.settled fun _=>1
  exact ⟨a,b,c,fun x hx=>(by cases hx),h.burn.fuse⟩
 · exact h.burn
theorem Ok.crash {d:Dk} (h:d.Ok) (p:List UInt8):(d.crash p).Ok:=by
 obtain ⟨a,b,c⟩:=h.settled (fate p)
 exact ⟨a,b,c,fun x hx=>(by cases hx),fun f hf=>by cases hf⟩
theorem Ok.arm {d:Dk} (h:d.Ok) (k:Int) (hk:k < 9223372036854775808):(d.arm k).Ok:=by
 refine ⟨h.pos,h.le,h.sect,h.wait,fun f hf=>?_⟩
 simp only [Dk.arm] at hf
 split at hf
 · simp only [Option.some.injEq] at hf; omega
 · cases hf
end Dk
end Go.Proofs.YthkbcfhjmnpggaaGreat

namespace Go.Proofs.YthkbcfhjmnpggaaGreat.Crc
def step (c:Nat):Nat:=if c % 2=1 then c / 2 ^^^ 3988292384 else c / 2
def step4 (c:Nat):Nat:=step (step (step (step c)))
def step8 (c:Nat):Nat:=step4 (step4 c)
def byteStep (c:Nat) (b:UInt8):Nat:=step8 (c ^^^ b.toNat)
def run (c:Nat) (l:List UInt8):Nat:=l.foldl byteStep c
def sum (l:List UInt8):Nat:=4294967295 - run 4294967295 l
theorem xor_lt {a b:Nat} (ha:a < 4294967296) (hb:b < 4294967296):a ^^^ b < 4294967296 :=
 Nat.xor_lt_two_pow (n:=32) ha hb
theorem step_lt {c:Nat} (h:c < 4294967296):step c < 4294967296:=by
 unfold step
 split
 · exact xor_lt (by omega) (by omega)
 · omega
theorem step4_lt {c:Nat} (h:c < 4294967296):step4 c < 4294967296:=step_lt (step_lt (step_lt (step_lt h)))
theorem step8_lt {c:Nat} (h:c < 4294967296):step8 c < 4294967296:=step4_lt (step4_lt h)
theorem byte_lt (b:UInt8):b.toNat < 256:=b.toNat_lt
theorem byteStep_lt {c:Nat} (b:UInt8) (h:c < 4294967296):byteStep c b < 4294967296 :=
 step8_lt (xor_lt h (by have:=byte_lt b; omega))
theorem run_lt (l:List UInt8):∀ {c:Nat},c < 4294967296→run c l < 4294967296:=by
 induction l with
 | nil=>intro c h; exact h
 | cons b l ih=>intro c h; exact ih (byteStep_lt b h)
theorem sum_lt (l:List UInt8):sum l < 4294967296:=by unfold sum; omega
theorem run_append (c:Nat) (l m:List UInt8):run c (l++m)=run (run c l) m:=by simp [run,List.foldl_append]
theorem run_snoc (c:Nat) (l:List UInt8) (b:UInt8):run c (l++[b])=byteStep (run c l) b:=by rw [run_append]; rfl
theorem xor_div_two (a b:Nat):(a ^^^ b) / 2=a / 2 ^^^ b / 2:=by
 apply Nat.eq_of_testBit_eq
 intro i
 simp [Nat.testBit_div_two]
theorem xor_mod_two (a b:Nat):(a ^^^ b) % 2=(a % 2+b % 2) % 2:=by
 have h:=Nat.testBit_xor a b 0
 simp only [Nat.testBit_zero] at h
 have ha:=Nat.mod_two_eq_zero_or_one a
 have hb:=Nat.mod_two_eq_zero_or_one b
 have hc:=Nat.mod_two_eq_zero_or_one (a ^^^ b)
 rcases ha with ha | ha <;> rcases hb with hb | hb <;> rcases hc with hc | hc <;> simp [ha,hb,hc] at h ⊢
theorem step_xor (a b:Nat):step (a ^^^ b)=step a ^^^ step b:=by
 unfold step
 rw [xor_div_two,xor_mod_two]
 rcases Nat.mod_two_eq_zero_or_one a with ha | ha <;> rcases Nat.mod_two_eq_zero_or_one b with hb | hb <;> simp [ha,hb]
 · ac_rfl
 · ac_rfl
 ·have:∀ x y p:Nat,x ^^^ y=x ^^^ p ^^^ (y ^^^ p):=fun x y p=>by
   rw [Nat.xor_assoc,← Nat.xor_assoc p y p,Nat.xor_comm p y,Nat.xor_assoc y p p,Nat.xor_self,Nat.xor_zero]
  exact this _ _ _
theorem step4_xor (a b:Nat):step4 (a ^^^ b)=step4 a ^^^ step4 b:=by simp only [step4,step_xor]
theorem step_double (c:Nat):step (c*2)=c:=by unfold step; rw [if_neg (by omega)]; omega
theorem step4_shift (c:Nat):step4 (c*16)=c:=by
 unfold step4
 rw [show c*16=c*2*2*2*2 from by omega,step_double,step_double,step_double,step_double]
theorem split16 (c:Nat):c / 16*16 ^^^ c % 16=c:=by
 apply Nat.eq_of_testBit_eq
 intro i
 have h1:c / 16*16=(c >>> 4) <<< 4:=by rw [Nat.shiftLeft_eq,Nat.shiftRight_eq_div_pow]
 have h2:c % 16=c % 2 ^ 4:=by simp
 rw [Nat.testBit_xor,h1,h2,Nat.testBit_mod_two_pow,Nat.testBit_shiftLeft,Nat.testBit_shiftRight]
 by_cases hi:i < 4
 · simp [hi,show ¬ 4≤i from by omega]
 · simp [hi,show i ≥ 4 from by omega,show 4+(i - 4)=i from by omega]
theorem step4_eq (c:Nat):step4 c=c / 16 ^^^ step4 (c % 16):=by
 have h:=step4_xor (c / 16*16) (c % 16)
 rw [split16,step4_shift] at h
 exact h
theorem xor_div16 (a b:Nat):(a ^^^ b) / 16=a / 16 ^^^ b / 16:=by
 have h:=fun n:Nat=>(Nat.shiftRight_eq_div_pow n 4).symm
 simp only [show (2:Nat) ^ 4=16 from rfl] at h
 rw [h,h,h,Nat.shiftRight_xor_distrib]
theorem byteStep_halves (c:Nat) (b:UInt8) :
 byteStep c b=(c / 16 ^^^ step4 ((c ^^^ b.toNat) % 16)) / 16 ^^^ step4 (((c / 16 ^^^ step4 ((c ^^^ b.toNat) % 16)) ^^^ b.toNat / 16) % 16):=by
 have hb:=byte_lt b
 unfold byteStep step8
 have h1:step4 (c ^^^ b.toNat)=(c / 16 ^^^ step4 ((c ^^^ b.toNat) % 16)) ^^^ b.toNat / 16:=by
  rw [step4_eq,xor_div16]
  ac_rfl
 rw [h1,step4_eq]
 congr 1
 rw [xor_div16,show b.toNat / 16 / 16=0 from by omega,Nat.xor_zero]
end Go.Proofs.YthkbcfhjmnpggaaGreat.Crc

namespace Go.Proofs.YthkbcfhjmnpggaaGreat
open Go.RowKit
def tab (k:Nat):Array Value:=((List.range 16).map fun i=>if i < k then Value.int .u32 (Crc.step4 i:Nat) else .int .u32 0).toArray
theorem tab_size (k:Nat):(tab k).size=16:=by simp [tab]
theorem tab_set (k:Nat):(tab k).setIfInBounds k (.int .u32 (Crc.step4 k:Nat))=tab (k+1):=by
 apply Array.ext
 · simp [tab]
 ·intro i h1 h2
  rw [Array.getElem_setIfInBounds (by simpa using h1)]
  simp only [tab,List.getElem_toArray,List.getElem_map,List.getElem_range]
  by_cases hi:k=i
  · subst hi; simp
  · rw [if_neg hi]; congr 1; simp; omega
theorem tab_zero:#[Value.int .u32 0,.int .u32 0,.int .u32 0,.int .u32 0,.int .u32 0,.int .u32 0,.int .u32 0,.int .u32 0,.int .u32 0,.int .u32 0,.int .u32 0,.int .u32 0,.int .u32 0,.int .u32 0,.int .u32 0,.int .u32 0]=tab 0:=by
 simp [tab,List.range,List.range.loop]
def stepN:Nat→Nat→Nat
 | 0,c=>c
 | j+1,c=>Crc.step (stepN j c)
theorem stepN_lt {c:Nat} (h:c < 4294967296) (j:Nat):stepN j c < 4294967296:=by
 induction j with
 | zero=>exact h
 | succ j ih=>exact Crc.step_lt ih
theorem and_one (m:Nat) (h:m < 4294967296):bits .and .u32 (m:Int) 1=((m % 2:Nat):Int):=by
 have:=u32_and_nat m 1 h (by omega)
 rw [Nat.and_one_is_mod] at this
 simpa using this
theorem xor_poly (m:Nat) (h:m < 4294967296):bits .xor .u32 ((m:Int) / 2) 3988292384=((m / 2 ^^^ 3988292384:Nat):Int):=by
 have:=u32_xor_nat (m / 2) 3988292384 (by omega) (by omega)
 simpa using this
theorem step_odd {m:Nat} (h:m < 4294967296) (ho:(bits .and .u32 (m:Int) 1 == 1)=true):bits .xor .u32 ((m:Int) / 2) 3988292384=(Crc.step m:Nat):=by
 rw [and_one m h] at ho
 have h1:m % 2=1:=by simp at ho; omega
 rw [xor_poly m h,Crc.step,if_pos h1]
theorem step_even {m:Nat} (h:m < 4294967296) (ho:(bits .and .u32 (m:Int) 1 == 1)=false):((m:Int) / 2)=(Crc.step m:Nat):=by
 rw [and_one m h] at ho
 have h1:¬ m % 2=1:=by simp at ho; omega
 rw [Crc.step,if_neg h1]
 simp
set_option maxHeartbeats 1000000 in
theorem halfSteps_any (w:World) :
 Calls Tryz.prog 124 #[] w fun e w'=>e=.returned (.agg (tab 16))∧Below w.heap.size w w':=by
 go_enter Tryz.func124,Tryz.ntmps124
 go_wp2
 rw [tab_zero]
 have hb1:Blk ((w.alloc (.cells (tab 0) 185)).alloc (.cells (tab 0) 185)) w.heap.size 185 (tab 0):=heap_alloc2_old w _ _
 have hb2:Blk ((w.alloc (.cells (tab 0) 185)).alloc (.cells (tab 0) 185)) (w.heap.size+1) 185 (tab 0):=heap_alloc2_new w _ _
 have hbl:Below w.heap.size w ((w.alloc (.cells (tab 0) 185)).alloc (.cells (tab 0) 185)):=((Below.refl _ _).alloc (Nat.le_refl _) _).alloc (by simp) _
 generalize (w.alloc (.cells (tab 0) 185)).alloc (.cells (tab 0) 185)=w1 at *
 go_loopw [2,3,4] (fun _ _ i w'=>∃ k:Nat,k≤16∧i=.int .i64 k∧Below w.heap.size w w'∧Blk w' w.heap.size 185 (tab 0)∧Blk w' (w.heap.size+1) 185 (tab k)) (fun _ _ i _=>16 - (intOf i).toNat)
 case atStart=>exact ⟨0,by omega,rfl,hbl,hb1,hb2⟩
 case round =>
  obtain ⟨k,hk,rfl,hB,h1,h2⟩:=hrel
  clear hb1 hb2 hbl
  by_cases h16:k < 16
  ·go_wp2
   go_loop [3,9] (fun n i=>∃ j:Nat,j≤4∧i=.int .i64 j∧n=.int .u32 (stepN j k:Nat)) (fun _ i=>4 - (intOf i).toNat)
   case atStart=>exact ⟨0,by omega,rfl,rfl⟩
   case round =>
    obtain ⟨j,hj,rfl,rfl⟩:=hrel
    have hs:=stepN_lt (c:=k) (by omega) j
    by_cases h4:j < 4
    ·go_wp2
     ·go_round
      case rel=>exact ⟨j+1,by omega,by go_num,by rw [step_odd hs (by assumption)]; rfl⟩
      case measure=>simp [intOf]; omega
     ·go_round
      case rel=>exact ⟨j+1,by omega,by go_num,by rw [step_even hs (by assumption)]; rfl⟩
      case measure=>simp [intOf]; omega
    ·have hc:=h2.cellAt (i:=k) (by rw [tab_size]; omega)
     have hf:=h2.frozen k
     have hj4:j=4:=by omega
     subst hj4
     have h2':=h2.set k (.int .u32 (stepN 4 k:Nat))
     rw [show stepN 4 k=Crc.step4 k from rfl,tab_set] at h2'
     have hH:=Lib.hid h2'
     clear h2'
     go_wp2
     go_round
     case rel=>exact ⟨k+1,by omega,by go_num,hB.setCell (by simp) _,h1.far (by simp) _,hH.out⟩
     case measure=>simp [intOf]; omega
  ·obtain rfl:k=16:=by omega
   go_wp2_with (first
    | (refine wpList_load_row rfl 185 _ rfl _ rfl 185 _ (0,0) _ h2 Tryz.underlying185 rfl (by rw [tab_size]; kernel_rfl) ?_)
    | (refine wpList_store_row rfl 185 _ _ rfl _ _ rfl rfl 185 _ h1 (by rw [tab_size]; kernel_rfl) (by rw [tab_size,tab_size]) ?hall ?_))
   · decide +kernel
   · exact bodyPost_ret (results_cell_row rfl _ _ w.heap.size 185 (tab 16) (0,0) _ rfl (h1.setRow _) Tryz.underlying185 rfl (by rw [tab_size]; kernel_rfl)) rfl ⟨rfl,below_setRow hB (Nat.le_refl _) _⟩
def crcTo (s:ByteArray) (k:Nat):Nat:=Crc.run 4294967295 (s.data.toList.take k)
theorem crcTo_lt (s:ByteArray) (k:Nat):crcTo s k < 4294967296:=Crc.run_lt _ (by omega)
theorem crcTo_succ (s:ByteArray) (k:Nat) (h:k < s.size):crcTo s (k+1)=Crc.byteStep (crcTo s k) s[k]:=by
 unfold crcTo
 rw [List.take_succ_eq_append_getElem (by simpa using h),Crc.run_snoc]
 rfl
theorem tab_at (i:Nat) (h:i < 16):(tab 16)[i]? = some (.int .u32 (Crc.step4 i:Nat)):=by
 simp [tab,h]
theorem and_15 (m:Nat) (h:m < 4294967296):bits .and .u32 (m:Int) 15=((m % 16:Nat):Int):=by
 have:=u32_and_nat m 15 h (by omega)
 rw [show (15:Nat)=2 ^ 4 - 1 from rfl,Nat.and_two_pow_sub_one_eq_mod] at this
 simpa using this
theorem xor_u32 {a b:Nat} (ha:a < 4294967296) (hb:b < 4294967296):bits .xor .u32 (a:Int) (b:Int)=((a ^^^ b:Nat):Int):=u32_xor_nat a b ha hb
theorem not_u32 {c:Nat} (h:c < 4294967296):bits .xor .u32 IntKind.u32.max (c:Int)=((4294967295 - c:Nat):Int):=by
 have h1:=u32_xor_nat 4294967295 c (by omega) h
 have h2:(4294967295:Nat) ^^^ c=4294967295 - c:=by
  apply Nat.eq_of_testBit_eq
  intro i
  have e:=Nat.testBit_two_pow_sub_succ (n:=32) (x:=c) h i
  rw [show 2 ^ 32 - (c+1)=4294967295 - c from by omega] at e
  rw [e,Nat.testBit_xor,show (4294967295:Nat)=2 ^ 32 - 1 from rfl,Nat.testBit_two_pow_sub_one]
  by_cases hi:i < 32
  · simp [hi]
  ·have:c.testBit i=false:=Nat.testBit_lt_two_pow (Nat.lt_of_lt_of_le h (Nat.pow_le_pow_right (n:=2) (by omega) (Nat.le_of_not_lt hi)))
   simp [hi,this]
 rw [h2] at h1
 exact h1
theorem byte_reads {w:World} {g t c b:Nat} (hb:Blk w g t (tab 16)) (hc:c < 4294967296) (hbb:b < 256) :
 ∃ m i j:Nat,m < 4294967296∧i < 16∧j < 16 ∧
  bits .and .u32 (bits .xor .u32 (c:Int) (b:Int)) 15=(i:Int)∧w.cell? ⟨g,i,none⟩=some (.int .u32 (Crc.step4 i:Nat)) ∧
  bits .xor .u32 ((c:Int) / 16) (Crc.step4 i:Nat)=(m:Int) ∧
  bits .and .u32 (bits .xor .u32 (m:Int) ((b:Int) / 16)) 15=(j:Int)∧w.cell? ⟨g,j,none⟩=some (.int .u32 (Crc.step4 j:Nat)) ∧
  bits .xor .u32 ((m:Int) / 16) (Crc.step4 j:Nat)=((m / 16 ^^^ Crc.step4 j:Nat):Int) ∧
  m=c / 16 ^^^ Crc.step4 i∧i=(c ^^^ b) % 16∧j=(m ^^^ b / 16) % 16:=by
 have s4:∀ x:Nat,Crc.step4 (x % 16) < 4294967296:=fun x=>Crc.step4_lt (by omega)
 have rd:∀ x:Nat,w.cell? ⟨g,x % 16,none⟩=some (.int .u32 (Crc.step4 (x % 16):Nat)):=fun x=>by
  rw [hb.cell,tab_at _ (by omega)]
 have hm:c / 16 ^^^ Crc.step4 ((c ^^^ b) % 16) < 4294967296:=Crc.xor_lt (by omega) (s4 _)
 refine ⟨_,_,_,hm,by omega,?_,?_,rd _,?_,?_,rd _,?_,rfl,rfl,rfl⟩
 · omega
 · rw [xor_u32 hc (by omega),and_15 _ (Crc.xor_lt hc (by omega))]
 · exact xor_u32 (a:=c / 16) (by omega) (s4 _)
 ·generalize c / 16 ^^^ Crc.step4 ((c ^^^ b) % 16)=m at hm ⊢
  have e:=xor_u32 (a:=m) (b:=b / 16) hm (by omega)
  rw [show ((b / 16:Nat):Int)=(b:Int) / 16 from by omega] at e
  rw [e,and_15 _ (Crc.xor_lt hm (by omega))]
 ·generalize c / 16 ^^^ Crc.step4 ((c ^^^ b) % 16)=m at hm ⊢
  exact xor_u32 (a:=m / 16) (by omega) (s4 _)
set_option maxRecDepth 100000 in
set_option maxHeartbeats 1000000 in
theorem sum_any (s:ByteArray) (w:World) (hs:s.size≤maxLen) :
 Calls Tryz.prog 106 #[.string s] w fun e w'=>e=.returned (.int .u32 (Crc.sum s.data.toList:Nat))∧Below w.heap.size w w':=by
 unfold maxLen at hs
 go_enter Tryz.func106,Tryz.ntmps106
 go_wp2_with (first
  | (go_at_call 124; refine (halfSteps_any _).mono ?_; rintro e w1 ⟨rfl,hb⟩)
  | (refine wpList_store_row rfl 185 _ _ rfl _ _ rfl rfl 185 _ (Blk.new _ _ _) (by rw [tab_size]; kernel_rfl) (by rw [tab_size]; rfl) (by decide +kernel) ?_))
 have hk:Blk ((w1.alloc (.cells #[Value.int .u32 0,.int .u32 0,.int .u32 0,.int .u32 0,.int .u32 0,.int .u32 0,.int .u32 0,.int .u32 0,.int .u32 0,.int .u32 0,.int .u32 0,.int .u32 0,.int .u32 0,.int .u32 0,.int .u32 0,.int .u32 0] 185)).setRow w1.heap.size (tab 16)) w1.heap.size 185 (tab 16):=(Blk.new _ _ _).setRow _
 have hB:Below w.heap.size w ((w1.alloc (.cells #[Value.int .u32 0,.int .u32 0,.int .u32 0,.int .u32 0,.int .u32 0,.int .u32 0,.int .u32 0,.int .u32 0,.int .u32 0,.int .u32 0,.int .u32 0,.int .u32 0,.int .u32 0,.int .u32 0,.int .u32 0,.int .u32 0] 185)).setRow w1.heap.size (tab 16)):=below_setRow (hb.alloc hb.size _) hb.size _
 generalize (w1.alloc _).setRow w1.heap.size (tab 16)=w2 at *
 generalize w1.heap.size=g at *
 go_loop [4,10] (fun n i=>∃ k:Nat,k≤s.size∧i=.int .i64 k∧n=.int .u32 (crcTo s k:Nat)) (fun _ i=>s.size - (intOf i).toNat)
 case atStart=>exact ⟨0,Nat.zero_le _,rfl,rfl⟩
 case round =>
  obtain ⟨k,hk',rfl,rfl⟩:=hrel
  have hl:=crcTo_lt s k
  have hL:=Lib.hid hl
  by_cases hlt:k < s.size
  ·have hbyte:(s[k].toNat:Int) < 256:=by have:=s[k].toNat_lt; omega
   obtain ⟨m,i,j,hm,hi,hj,e1,e2,e3,e4,e5,e6,em,ei,ej⟩:=byte_reads hk hl s[k].toNat_lt
   have hS:Hid (m / 16 ^^^ Crc.step4 j=crcTo s (k+1)):=by
    show _=_
    rw [crcTo_succ s k hlt,Crc.byteStep_halves,ej,em,ei]
   clear hl em hm ei ej
   go_wp2
   go_round
   case rel=>exact ⟨k+1,by omega,by go_num,by rw [hS.out]⟩
   case measure=>simp [intOf]; omega
  ·clear hl
   obtain rfl:k=s.size:=by omega
   have hn:=Lib.hid (not_u32 hL.out)
   have hf:=Lib.hid (show crcTo s s.size=Crc.run 4294967295 s.data.toList by unfold crcTo; rw [List.take_of_length_le (by simp)])
   go_wp2
   go_ret
   exact ⟨by rw [hn.out,hf.out]; rfl,hB⟩
end Go.Proofs.YthkbcfhjmnpggaaGreat
