/- Texts that belong together, joined: RdK, TaR, TaT. -/
import Derived.Test.YthkbcfhjmnpggaaGreatK36
import Derived.Test.YthkbcfhjmnpggaaGreatK33
namespace Go.Proofs.YthkbcfhjmnpggaaGreat
open Go.RowKit
section
set_option maxRecDepth 100000
set_option maxHeartbeats 16000000
theorem refOne14_any {w:World} {v:Value} {L:List Ent} (n:Int) (hL:IsEnts w v L) :
 Calls Tryz.prog 63 #[v,.int .i64 n] w fun e w'=>e=.returned (.agg #[.int .i64 (Hs.oneL L n).1,.string (Hs.oneL L n).2])∧Below w.heap.size w w':=by
 obtain ⟨a,cap,rfl,hl1,hl2,hx⟩:=hL
 unfold maxLen at hl2
 have EM:=Lib.hid pgRefEmpty_any
 have HX:=Lib.hid hx
 clear hx
 have R0:=Blk.new w 76 #[.int .i64 0,.string ⟨#[]⟩]
 have hB:=(Below.refl w.heap.size w).alloc (Nat.le_refl _) (.cells #[.int .i64 0,.string ⟨#[]⟩] 76)
 go_enter Tryz.func63,Tryz.ntmps63
 go_wp2_with fail
 generalize w.alloc _=w1 at *
 refine (EM.out _).mono ?_
 rintro e w2 ⟨rfl,hb⟩
 replace R0:=R0.keep hb R0.lt
 have hB2:=hB.trans (hb.mono hB.size)
 have N0:=Blk.new w2 76 #[.int .i64 0,.string ⟨#[]⟩]
 have P0:=N0.setRow #[.int .i64 0,.string noughts]
 have R1:=(R0.alloc (.cells #[.int .i64 0,.string ⟨#[]⟩] 76)).farRow (k:=w2.heap.size) (by have:=R0.lt; omega) #[.int .i64 0,.string noughts]
 have HB3:=Lib.hid (below_setRow (hB2.alloc hB2.size (.cells #[.int .i64 0,.string ⟨#[]⟩] 76)) (g:=w2.heap.size) hB2.size #[.int .i64 0,.string noughts])
 have hgp:=hB2.size
 have hne:w.heap.size≠w2.heap.size:=by have:=R0.lt; omega
 have HNE:=Lib.hid hne
 clear hB2 hB hb EM R0 hne
 go_upto_region 2 with (refine wpList_store_row rfl 76 _ _ rfl w2.heap.size _ rfl rfl 76 _ N0 (by kernel_rfl) (by simp) (by simp [Value.oneCell']) ?_)
 clear N0
 change Code.wp _ _ _ _ ((w2.alloc (.cells #[.int .i64 0,.string ⟨#[]⟩] 76)).setRow w2.heap.size #[.int .i64 0,.string noughts])
 generalize (w2.alloc _).setRow _ _=w3 at *
 generalize w2.heap.size=gp at *
 have HGP:=Lib.hid hgp
 clear hgp
 go_wp2_with fail
 go_loopw [6] (fun vk wr=>∃ k:Nat,vk=.int .i64 k∧k≤L.length∧Below w.heap.size w wr∧Blk wr gp 76 #[.int .i64 (Hs.oneL (L.take k) n).1,.string (Hs.oneL (L.take k) n).2]∧Blk wr w.heap.size 76 #[.int .i64 0,.string ⟨#[]⟩]) (fun vk _=>L.length - (intOf vk).toNat)
 case atStart=>exact ⟨0,rfl,Nat.zero_le _,HB3.out,P0,R1⟩
 case round =>
  obtain ⟨k,rfl,hk,hB,hP,hR⟩:=hrel
  clear HB3 P0 R1
  have HB:=Lib.hid hB
  clear hB
  by_cases hlt:k < L.length
  ·have HLT:=Lib.hid hlt
   have hkI:(k:Int) < L.length:=by omega
   obtain ⟨b,off,ta,tc,pa,pc,rfl,lt1,la,c0,ci⟩:=Recs12.at_ (EntsAt.keep HX.out HB.out) k hlt
   have HTK:=Lib.hid (Hs.one_take hlt n)
   generalize L[k]=x at *
   clear hlt
   obtain ⟨at_,r⟩:=x
   simp only at la ci c0
   obtain ⟨q,hq⟩:∃ q:Hs.Pge,q=Hs.oneL (L.take k) n:=⟨_,rfl⟩
   rw [← hq] at hP HTK
   clear hq
   obtain ⟨q1,q2⟩:=q
   obtain ⟨pg,hpg⟩:∃ pg,pg=r.page:=⟨_,rfl⟩
   have c3:wr.cell? ⟨b,off+k*12+1+2,none⟩=some (.int .i64 pg):=by rw [hpg]; exact ci 2 _ rfl
   by_cases hpn:pg=n
   ·have HST:=Lib.hid (HTK.out.trans (if_pos (hpg.symm.trans hpn)))
    have BH:Hid (∀ W,Below wr.drew.heap.size wr.drew W→Calls Tryz.prog 92 #[.agg #[.int .i64 q1,.string q2],.int .i64 at_,.agg #[.int .i64 r.kind,.int .i64 r.txn,.int .i64 r.page,.int .i64 r.off,.int .i64 r.prev,.int .i64 r.next,.int .i64 r.beg,.string r.before,.string r.after,.slice ta r.txns.length tc,.slice pa r.pages.length pc]] W
     fun e w'=>e=.returned (.agg #[.int .i64 (Hs.apP (q1,q2) at_ r).1,.string (Hs.apP (q1,q2) at_ r).2])∧Below W.heap.size W w'):=fun W hW=>by
     have:=pgRefApply_any q1 at_ q2 (r:=r) (w:=W) ⟨_,_,rfl,(la.keep (w':=wr.drew) (Below.refl _ _).drew).keep hW⟩
     rwa [applyR_P] at this
    have XC:Hid (∀ W,Below wr.drew.heap.size wr.drew W→(W.cell? ⟨gp,0,none⟩=some (.int .i64 q1)∧W.cell? ⟨gp,1,none⟩=some (.string q2))∧W.cell? ⟨b,off+k*12,none⟩=some (.int .i64 at_) ∧
     RecAt W b (off+k*12+1) r (.slice ta r.txns.length tc) (.slice pa r.pages.length pc)∧Blk W gp 76 #[.int .i64 q1,.string q2]∧Blk W w.heap.size 76 #[.int .i64 0,.string ⟨#[]⟩]):=fun W hW=>by
     have hg:=hP.drew.keep hW hP.lt
     have hW':Below wr.heap.size wr W:=(Below.refl _ _).drew.trans hW
     exact ⟨⟨hg.cell 0,hg.cell 1⟩,(hW'.cell (p:=⟨b,off+k*12,none⟩) lt1).trans c0,.mk' fun i u hi=>(hW'.cell (p:=⟨b,off+k*12+1+i,none⟩) lt1).trans (ci i u hi),hg,hR.drew.keep hW hR.lt⟩
    have I2:=Lib.hid hkI
    have HPN:=Lib.hid (hpn.symm.trans hpg)
    clear hpg HTK la ci hP hR
    subst hpn
    go_upto_region 6 with fail
    clear c0 c3 hkI
    refine' wp_region_conf 12 (.is _::.is _::.is _::.is _::.is _::.is _::.is _::.is _::.is _::.is _::.is _::.is _::[]) (by kernel_rfl) (by kernel_rfl) (by kernel_rfl) (by kernel_rfl) rfl ?main
    case main =>
     iterate 1 (
      apply obs_step
      · rfl
      ·intro w9 hE9 hk9
       have f0:=(XC.out w9 hE9).1.1
       have f1:=(XC.out w9 hE9).1.2
       clear hk9 hE9
       as_aux_lemma =>
        go_wp2
        refine post_eq ?_ (Below.refl _ _)
        simp only [Act.put,sA,sB,sC]
        try rfl
      ·simp only [Act.put,sA,sB,sC]
       rfl)
     iterate 2 (
      apply obs_step
      · rfl
      ·intro w9 hE9 hk9
       clear hk9 hE9
       as_aux_lemma =>
        go_wp2
        refine post_eq ?_ (Below.refl _ _)
        simp only [Act.put,sA,sB,sC]
        try rfl
      ·simp only [Act.put,sA,sB,sC]
       rfl)
     iterate 1 (
      apply obs_step
      · rfl
      ·intro w9 hE9 hk9
       have i2:=I2.out
       clear hk9 hE9
       as_aux_lemma =>
        go_wp2
        refine post_eq ?_ (Below.refl _ _)
        simp only [Act.put,sA,sB,sC]
        try rfl
      ·simp only [Act.put,sA,sB,sC]
       rfl)
     iterate 1 (
      apply obs_step
      · rfl
      ·intro w9 hE9 hk9
       clear hk9 hE9
       as_aux_lemma =>
        go_wp2
        refine post_eq ?_ (Below.refl _ _)
        simp only [Act.put,sA,sB,sC]
        try rfl
      ·simp only [Act.put,sA,sB,sC]
       rfl)
     iterate 1 (
      apply obs_step
      · rfl
      ·intro w9 hE9 hk9
       have f2:=(XC.out w9 hE9).2.1
       clear hk9 hE9
       as_aux_lemma =>
        go_wp2
        refine post_eq ?_ (Below.refl _ _)
        simp only [Act.put,sA,sB,sC]
        try rfl
      ·simp only [Act.put,sA,sB,sC]
       rfl)
     iterate 2 (
      apply obs_step
      · rfl
      ·intro w9 hE9 hk9
       clear hk9 hE9
       as_aux_lemma =>
        go_wp2
        refine post_eq ?_ (Below.refl _ _)
        simp only [Act.put,sA,sB,sC]
        try rfl
      ·simp only [Act.put,sA,sB,sC]
       rfl)
     iterate 1 (
      apply obs_step
      · rfl
      ·intro w9 hE9 hk9
       have i2:=I2.out
       clear hk9 hE9
       as_aux_lemma =>
        go_wp2
        refine post_eq ?_ (Below.refl _ _)
        simp only [Act.put,sA,sB,sC]
        try rfl
      ·simp only [Act.put,sA,sB,sC]
       rfl)
     iterate 1 (
      apply obs_step
      · rfl
      ·intro w9 hE9 hk9
       clear hk9 hE9
       as_aux_lemma =>
        go_wp2
        refine post_eq ?_ (Below.refl _ _)
        simp only [Act.put,sA,sB,sC]
        try rfl
      ·simp only [Act.put,sA,sB,sC]
       rfl)
     iterate 1 (
      apply obs_step
      · rfl
      ·intro w9 hE9 hk9
       obtain ⟨r0,r1,r2,r3,r4,r5,r6,r7,r8,r9,r10⟩:=(XC.out w9 hE9).2.2.1
       clear hk9 hE9
       as_aux_lemma =>
        go_wp2
        refine post_eq ?_ (Below.refl _ _)
        simp only [Act.put,sA,sB,sC]
        try rfl
      ·simp only [Act.put,sA,sB,sC]
       rfl)
     iterate 1 (
      apply obs_step
      · rfl
      ·intro w9 hE9 hk9
       have AP9:=BH.out w9 hE9
       clear hk9 hE9
       as_aux_lemma =>
        go_wp2_with fail
        refine (AP9.mono ?_)
        rintro e w10 ⟨rfl,hb10⟩
        go_wp2
        refine post_eq ?_ hb10
        simp only [Act.put,sA,sB,sC]
        try rfl
      ·simp only [Act.put,sA,sB,sC]
       rfl)
     refine obs_end fun w9 hE9 _=>?_
     have hkI:=I2.out
     have hB9:=HB.out.drew.trans (hE9.mono HB.out.size)
     obtain ⟨_,_,_,P9,R9⟩:=XC.out w9 hE9
     have P5:=Lib.hid (P9.setRow #[.int .i64 (Hs.apP (q1,q2) at_ r).1,.string (Hs.apP (q1,q2) at_ r).2])
     have R5:=Lib.hid (R9.farRow (k:=gp) HNE.out #[.int .i64 (Hs.apP (q1,q2) at_ r).1,.string (Hs.apP (q1,q2) at_ r).2])
     have HB5:=Lib.hid (below_setRow (g:=gp) hB9 HGP.out #[.int .i64 (Hs.apP (q1,q2) at_ r).1,.string (Hs.apP (q1,q2) at_ r).2])
     clear hB9 hE9 XC BH HB R9
     go_wp2_with (refine wpList_store_row rfl 76 _ _ rfl gp _ rfl rfl 76 _ P9 (by kernel_rfl) rfl (by simp [Value.oneCell']) ?_)
     exact ⟨⟨k+1,by go_num,HLT.out,HB5.out,by rw [HST.out]; exact P5.out,R5.out⟩,by simp [intOf]; have:=HLT.out; omega⟩
   ·have HST:=Lib.hid (HTK.out.trans (if_neg (fun e=>hpn (hpg.trans e))))
    clear la ci hpg HTK
    go_wp2
    exact ⟨⟨k+1,by go_num,HLT.out,HB.out,by rw [HST.out]; exact hP,hR⟩,by simp [intOf]; have:=HLT.out; omega⟩
  ·obtain rfl:k=L.length:=by omega
   rw [List.take_length] at hP
   obtain ⟨q1,q2,hq⟩:∃ q1 q2,Hs.oneL L n=(q1,q2):=⟨_,_,rfl⟩
   rw [hq] at hP
   have HQ:=Lib.hid hq
   clear hq
   have p0:=hP.cellAt (i:=0) (by simp)
   have p1:=hP.cellAt (i:=1) (by simp)
   simp at p0 p1
   clear hP
   go_wp2_with (refine wpList_store_row rfl 76 _ _ rfl w.heap.size _ rfl rfl 76 _ hR (by kernel_rfl) (by simp) (by simp [Value.oneCell']) ?_)
   exact bodyPost_ret (results_cell_row rfl _ _ w.heap.size 76 _ (0,0) _ rfl (hR.setRow _) Tryz.underlying76 rfl (by kernel_rfl)) rfl ⟨by rw [HQ.out],below_setRow HB.out (Nat.le_refl _) _⟩
end
end Go.Proofs.YthkbcfhjmnpggaaGreat

namespace Go.Proofs.YthkbcfhjmnpggaaGreat
open Go.RowKit
section
variable {w:World} {F FL:Foot} {g gl gd:Nat} {t:Tp} {l:Wl}
theorem rt_cells (hT:IsRt w F g t) (hL:IsRL w FL gl gd l):∀ W,Below w.heap.size w W→W.cell? ⟨g,0,none⟩=some (.int .i64 (t.upto:Int))∧W.cell? ⟨gl,3,none⟩=some (.int .i64 l.low)∧W.cell? ⟨gl,4,none⟩=some (.int .i64 l.first):=fun W hW=>by
 obtain ⟨_,v,q,r⟩:=hT.below hW
 obtain ⟨_,vb,r2⟩:=hL.below hW
 obtain ⟨_,_,_,c3,c4,_⟩:=r2.cells
 exact ⟨r.cells.1,c3,c4⟩
set_option maxRecDepth 100000 in
set_option maxHeartbeats 4000000 in
theorem rtWhole_state (hT:IsRt w F g t) (hL:IsRL w FL gl gd l) (hlow:t.upto < l.low) :
 Calls Tryz.prog 26 #[.pointer (some ⟨g,0,none⟩),.pointer (some ⟨gl,0,none⟩)] w fun e w'=>e=.returned (.tuple #[.slice none 0 0,.int .i64 11])∧Below w.heap.size w w':=by
 obtain ⟨c0,c3,_⟩:=rt_cells hT hL w (Below.refl _ _)
 have hlt:(t.upto:Int) < l.low:=by omega
 clear hT hL hlow
 generalize (t.upto:Int)=u at *
 generalize (l.low:Int)=lo at *
 go_enter Tryz.func26,Tryz.ntmps26
 go_wp2_with fail
 go_quiet (fail)
 go_wp2
 go_ret2
 exact ⟨rfl,drewN_below w _⟩
theorem rtWhole_any (hT:IsRt w F g t) (hL:IsRL w FL gl gd l) (hlen:t.l.length≤40000000) :
 Calls Tryz.prog 26 #[.pointer (some ⟨g,0,none⟩),.pointer (some ⟨gl,0,none⟩)] w fun e w'=>∃ v,e=.returned (.tuple #[v,.int .i64 (t.err l)])∧IsEnts w' v (t.whole l)∧Below w.heap.size w w':=by
 by_cases h:t.upto < l.low
 ·have e1:t.whole l = []:=if_pos h
  have e2:t.err l=11:=if_pos h
  rw [e1,e2]
  refine (rtWhole_state hT hL h).mono ?_
  rintro e w1 ⟨rfl,hb⟩
  exact ⟨_,rfl,IsEnts.nil _,hb⟩
 ·have e2:t.err l=0:=if_neg h
  rw [e2]
  exact rtWhole_ok hT hL (by omega) hlen
set_option maxRecDepth 100000 in
set_option maxHeartbeats 4000000 in
theorem rtPage_any (hT:IsRt w F g t) (hL:IsRL w FL gl gd l) (hlen:t.l.length≤40000000) (n:Int) :
 Calls Tryz.prog 28 #[.pointer (some ⟨g,0,none⟩),.pointer (some ⟨gl,0,none⟩),.int .i64 n] w fun e w'=>e=.returned (.tuple #[.agg #[.int .i64 (t.page l n).1,.string (t.page l n).2],.int .i64 (t.err l)])∧Below w.heap.size w w':=by
 have hbr:=Blk.new w 76 #[.int .i64 0,.string ⟨#[]⟩]
 have hb0:=(Below.refl w.heap.size w).alloc (Nat.le_refl _) (.cells #[.int .i64 0,.string ⟨#[]⟩] 76)
 have HB0:=Lib.hid hb0
 by_cases h:t.upto < l.low
 ·have e1:t.page l n=(0,⟨#[]⟩):=if_pos h
  have e2:t.err l=11:=if_pos h
  rw [e1,e2]
  have K:=Lib.hid (rtWhole_state (hT.below hb0) (hL.below hb0) h)
  clear hT hL hb0 e1 e2 h
  go_enter Tryz.func28,Tryz.ntmps28
  go_wp2_with fail
  refine K.out.mono ?_
  rintro e w1 ⟨rfl,hb1⟩
  have B1:=hbr.keep hb1 hbr.lt
  have HB1:=Lib.hid (below2 HB0.out hb1)
  clear hb1 hbr K
  go_wp2_with (refine wpList_store_row rfl 76 _ _ rfl w.heap.size _ rfl rfl 76 _ B1 (by kernel_rfl) rfl (by simp [Value.oneCell']) ?_)
  refine bodyPost_ret (results_row_tmp rfl _ _ w.heap.size 76 #[.int .i64 0,.string ⟨#[]⟩] _ rfl (B1.setRow _) Tryz.underlying76 rfl (by kernel_rfl)) rfl ?_
  exact ⟨rfl,below_setRow HB1.out (Nat.le_refl _) _⟩
 ·have e1:t.page l n=Hs.oneL (t.whole l) n:=if_neg h
  have e2:t.err l=0:=if_neg h
  rw [e1,e2]
  have K:=Lib.hid (rtWhole_ok (hT.below hb0) (hL.below hb0) (by omega) hlen)
  clear hT hL hb0 e1 e2 h hlen
  go_enter Tryz.func28,Tryz.ntmps28
  go_wp2_with fail
  refine K.out.mono ?_
  rintro e w1 ⟨v1,rfl,hv1,hb1⟩
  have B1:=hbr.keep hb1 hbr.lt
  have HB1:=Lib.hid (below2 HB0.out hb1)
  have ONE:=Lib.hid (refOne14_any n hv1)
  obtain ⟨a1,c1,hva,_⟩:=hv1
  obtain ⟨N1,hN1⟩:∃ N:Nat,(t.whole l).length=N:=⟨_,rfl⟩
  rw [hN1] at hva
  clear hb1 hbr K hN1
  subst hva
  go_wp2_with fail
  refine ONE.out.mono ?_
  rintro e w4 ⟨rfl,hb4⟩
  have B4:=B1.keep hb4 B1.lt
  have HB4:=Lib.hid (below2 HB1.out hb4)
  clear hb4 B1 ONE
  generalize hP:Hs.oneL (t.whole l) n=P at *
  have HP:=Lib.hid hP
  clear hP
  go_wp2_with (refine wpList_store_row rfl 76 _ _ rfl w.heap.size _ rfl rfl 76 _ B4 (by kernel_rfl) rfl (by simp [Value.oneCell']) ?_)
  refine bodyPost_ret (results_row_tmp rfl _ _ w.heap.size 76 #[.int .i64 P.1,.string P.2] _ rfl (B4.setRow _) Tryz.underlying76 rfl (by kernel_rfl)) rfl ?_
  refine ⟨?_,below_setRow HB4.out (Nat.le_refl _) _⟩
  rw [HP.out]
  rfl
end
end Go.Proofs.YthkbcfhjmnpggaaGreat

namespace Go.Proofs.YthkbcfhjmnpggaaGreat
open Go.RowKit
theorem AddAt.done {w wr:World} {F:Foot} {g:Nat} {t:Tp} {vl v:Value} {q qr qk:List Qe} (h:AddAt w wr F g t vl q qr qk v) (he:q.map Qe.ent=t.l) (hfr:∀ x ∈ q,(rows3 x.r.txns≠[]→∀ b,x.vt.ownBlock=some b→F b)∧(rows2 x.r.pages≠[]→∀ b,x.vp.ownBlock=some b→F b)) (hlt:∀ b,F b→b < w.heap.size) (m:Nat) :
 RtR (wr.setCell ⟨g,0,none⟩ (.int .i64 (m:Int))) (fun b=>F b∨(w.heap.size≤b∧b < wr.heap.size)) g ⟨m,t.l++qk.map Qe.ent⟩ v (q++qk)∧Step F (fun b=>F b∨(w.heap.size≤b∧b < wr.heap.size)) w (wr.setCell ⟨g,0,none⟩ (.int .i64 (m:Int))):=by
 have hs:=h.step.size
 have r0:RtR wr (fun b=>F b∨(w.heap.size≤b∧b < wr.heap.size)) g { t with l:=t.l++qk.map Qe.ent } v (q++qk):=by
  refine ⟨h.head,h.own,by rw [List.map_append,he],.inl h.gF,fun b hb=>?_,fun x hx=>?_,fun b hb=>?_⟩
  ·rcases h.fv b hb with hf | hf
   · exact .inl hf
   · exact .inr ⟨hf,(h.own.own.lt b hb).2⟩
  ·rcases List.mem_append.1 hx with hx2 | hx2
   · exact ⟨fun hr b hb=>⟨.inl ((hfr x hx2).1 hr b hb),(h.frg x hx2).1 hr b hb⟩,fun hr b hb=>⟨.inl ((hfr x hx2).2 hr b hb),(h.frg x hx2).2 hr b hb⟩⟩
   ·have hq:=h.sub x hx2
    have hg:=h.gl
    exact ⟨fun hr b hb=>by have h1:=(h.fresh x hq).1 hr b hb; have h2:=(h.all.lists x hq).t.blt hr b hb; exact ⟨.inr ⟨h1,h2⟩,by omega⟩,fun hr b hb=>by have h1:=(h.fresh x hq).2 hr b hb; have h2:=(h.all.lists x hq).p.blt hr b hb; exact ⟨.inr ⟨h1,h2⟩,by omega⟩⟩
  ·rcases hb with hb | hb
   · have:=hlt b hb; omega
   · exact hb.2
 obtain ⟨r1,s1⟩:=r0.moved (m:Int) m rfl
 exact ⟨r1,h.step.trans s1⟩
theorem filter_snoc (es:List Ent) (x:Ent) (f:Int):((es++[x]).filter fun x=>decide (x.1.tdiv 128 < f))=(es.filter fun x=>decide (x.1.tdiv 128 < f))++if x.1.tdiv 128 < f then [x] else []:=by
 rw [List.filter_append]
 congr 1
 by_cases h:x.1.tdiv 128 < f
 · rw [if_pos h,List.filter_cons_of_pos (by simpa using h)]; rfl
 · rw [if_neg h,List.filter_cons_of_neg (by simpa using h)]; rfl
section
variable {w:World} {F FL:Foot} {g gl gd:Nat} {t:Tp} {l:Wl}
set_option maxRecDepth 100000 in
set_option maxHeartbeats 8000000 in
theorem rtAdd_ok (hT:IsRt w F g t) (hL:IsRL w FL gl gd l) (hap:∀ b,F b→¬ FL b) (hlow:l.low≤t.upto) (hlen:t.l.length≤40000000) :
 Calls Tryz.prog 16 #[.pointer (some ⟨g,0,none⟩),.pointer (some ⟨gl,0,none⟩)] w fun e w'=>e=.returned (.tuple #[.int .i64 (t.addN l),.int .i64 0])∧∃ F',IsRt w' F' g (t.add l)∧Step F F' w w':=by
 have CC:=Lib.hid (rt_cells hT hL)
 have HL:=Lib.hid hL
 have HAP:=Lib.hid hap
 have hlt:¬ (t.upto:Int) < l.low:=by omega
 have SC:Hid (∀ W,Below w.heap.size w W→Calls Tryz.prog 51 #[.pointer (some ⟨gl,0,none⟩),.int .i64 ((t.upto:Int)*128)] W (EntsOut W (t.behind l))):=fun W hW=>by
  have:=rlScan_any (HL.out.below hW) (((t.upto*128:Nat)):Int)
  rw [show ((t.upto*128:Nat):Int)=(t.upto:Int)*128 by omega] at this
  unfold Tp.behind
  rw [show ((t.upto*128:Nat):Int)=(t.upto:Int)*128 by omega]
  exact this
 have hum:(t.upto:Int)≤4294967296:=by have:=hT.1.um; omega
 have hu0:(0:Int)≤t.upto:=by omega
 have HCN:Hid ((t.behind l).length≤7168):=Nat.le_trans (List.length_filter_le _ _) (Wl.all_count hL.1)
 have HPOS:Hid (∀ x ∈ t.behind l,(0:Int)≤x.1∧x.1≤1099511627776):=fun x hx=>by
  have hm:=(List.mem_filter.1 hx).1
  have h1:=Wl.all_low hL.1 x hm
  have h2:=Wl.all_end hL.1 x hm
  have h3:=hL.1.lm
  have h4:=hL.1.len
  have h5:=hL.1.s64
  unfold Wl.end_ at h2
  omega
 have hfi:(l.first:Int)≤2147483711:=by
  have h1:=hL.1.fe; have h2:=hL.1.lm; have h3:=hL.1.len; have h4:=hL.1.s64
  unfold Wl.end_ at h1
  omega
 obtain ⟨tok,v,q,r⟩:=hT
 have HR:=Lib.hid r
 have HTOK:=Lib.hid tok
 have hqn:q.length≤40000000:=by
  have e:=congrArg List.length r.ents
  rw [List.length_map] at e
  omega
 obtain ⟨i0,hi0,hz0,hz1,hz2⟩:=info_parts ta_info
 have HI:=Lib.hid (And.intro hi0 (And.intro hz0 (And.intro hz1 hz2)))
 obtain ⟨c0,c3,c4⟩:=CC.out w (Below.refl _ _)
 have HLOW:=Lib.hid hlow
 have HLEN:=Lib.hid hlen
 have hst0:=r
 clear hL r tok hi0 hz0 hz1 hz2 hap hlow hlen hst0
 generalize hu:(t.upto:Int)=u at CC SC hlt hum hu0 c0
 generalize hlo:(l.low:Int)=lo at CC hlt c3
 generalize hfe:(l.first:Int)=fi at CC hfi c4
 have hltb:decide (u < lo)=false:=decide_eq_false hlt
 have HU:=Lib.hid (And.intro hu hfe)
 clear hu hlo hfe
 go_enter Tryz.func16,Tryz.ntmps16
 go_wp2_with fail
 go_quiet (fail)
 have hb1:=drewN_below w nq
 have S1:=Lib.hid (SC.out _ hb1)
 have HB1:=Lib.hid hb1
 have c0':(w.drewN nq).cell? ⟨g,0,none⟩=some (.int .i64 u):=c0
 clear c0 c3 c4 SC
 generalize w.drewN nq=w1 at *
 clear hb1
 go_wp2_with fail
 refine S1.out.mono ?_
 rintro e w2 ⟨vr,qr,rfl,hqr,hor,hb2,hfr⟩
 have hnr:qr.length≤7168:=by
  have e:=congrArg List.length hqr
  rw [List.length_map] at e
  have:=HCN.out
  omega
 have hni:(qr.length:Int)≤7168:=by omega
 have HQR:=Lib.hid hqr
 have START:Hid (AddAt w w2 F g t vr q qr [] v):=by
  have r2:=HR.out.below (below2 HB1.out hb2)
  have hsz:=HB1.out.size
  refine ⟨r2.head,by rw [List.append_nil]; exact r2.own,hor.base hsz,hfr.base hsz,fun x h=>by simp at h,fun b hb=>.inl (HR.out.fv b hb),fun b hb e=>?_,fun x hx b hb=>⟨fun hr e=>?_,fun hr e=>?_⟩,⟨(below2 HB1.out hb2).os,(below2 HB1.out hb2).tape,(below2 HB1.out hb2).output,(below2 HB1.out hb2).size,fun b hlt _=>(below2 HB1.out hb2).block b hlt,fun b hF=>hF.elim .inl fun e=>.inr e.1⟩,fun x hx=>⟨fun hr b hb=>((HR.out.fr x hx).1 hr b hb).2,fun hr b hb=>((HR.out.fr x hx).2 hr b hb).2⟩,HR.out.fg,HR.out.lt g HR.out.fg⟩
  ·have h1:=HR.out.lt b (HR.out.fv b hb)
   have h2:=(hor.own.lt b e).1
   omega
  ·have h1:=HR.out.lt b (HR.out.fv b hb)
   have h2:=(hfr x hx).1 hr b e
   omega
  ·have h1:=HR.out.lt b (HR.out.fv b hb)
   have h2:=(hfr x hx).2 hr b e
   omega
 have HSZ:Hid (w.heap.size≤w2.heap.size):=(below2 HB1.out hb2).size
 obtain ⟨ar,cr,hvr⟩:=own_slice hor.own
 clear hqr hor hb2 hfr S1 c0' HB1
 subst hvr
 go_wp2_with fail
 go_loopw [6,8] (fun vn vi wr=>∃ (i:Nat) (qk:List Qe) (vt:Value),vi=.int .i64 i∧i≤qr.length∧vn=.int .i64 qk.length∧qk.length≤i∧AddAt w wr F g t (.slice ar qr.length cr) q qr qk vt∧qk.map Qe.ent=((qr.take i).map Qe.ent).filter (fun x=>decide (x.1.tdiv 128 < (l.first:Int)))) (fun _ vi _=>qr.length - (intOf vi).toNat)
 case atStart=>exact ⟨0,[],v,rfl,Nat.zero_le _,rfl,Nat.le_refl _,START.out,by simp⟩
 case round =>
  obtain ⟨i,qk,vt,rfl,hi,rfl,hqk,hst,hq⟩:=hrel
  have ST:=Lib.hid hst
  have HQ:=Lib.hid hq
  clear START hst hq
  have hcl:Hid (∀ W,Below wr.heap.size wr W→W.cell? ⟨gl,4,none⟩=some (.int .i64 fi)):=fun W hW=>by
   obtain ⟨_,vb,r2⟩:=HL.out
   have hF:=r2.fg
   have h1:W.heap[gl]? = w.heap[gl]?:=(hW.block gl (Nat.lt_of_lt_of_le (r2.lt gl hF) ST.out.step.size)).trans (ST.out.step.block gl (r2.lt gl hF) fun hg=>HAP.out gl hg hF)
   have hB:Blk W gl 69 (rlogCells gd l vb):=h1.trans r2.head
   rw [← HU.out.2]
   exact hB.cell 4
  by_cases hlti:i < qr.length
  ·obtain ⟨ge,ce,hve,_,_⟩:=own_form ST.out.all.own (by omega)
   injection hve with e1 e2 e3
   subst e1
   subst e3
   have hii:(i:Int) < qr.length:=by omega
   have hcell:∀ k u,k < 12→qr[i].cells[k]? = some u→wr.cell? ⟨ge,i*12+k,none⟩=some u:=fun k u hk hu=>by
    rw [ST.out.all.own.cellAt (g:=ge) (i*12+k) (by omega),entsV_at qr i hlti k hk]
    exact hu
   have hge:ge < wr.heap.size:=(ST.out.all.own.lt ge rfl).2
   have hll:=ST.out.all.lists _ (List.getElem_mem hlti)
   have hmq:=List.getElem_mem hlti
   have hps:0≤qr[i].at_∧qr[i].at_≤1099511627776:=HPOS.out qr[i].ent (by rw [← HQR.out]; exact List.mem_map.2 ⟨qr[i],hmq,rfl⟩)
   have htk:(qr.take (i+1)).map Qe.ent=(qr.take i).map Qe.ent++[qr[i].ent]:=by rw [List.take_succ_eq_append_getElem hlti,List.map_append]; rfl
   have HTK:=Lib.hid htk
   have HMQ:=Lib.hid hmq
   clear htk hmq
   generalize qr[i]=X at *
   obtain ⟨xa,xr,xt,xp⟩:=X
   obtain ⟨xta,xtc,hxt⟩:=hll.t.form
   obtain ⟨xpa,xpc,hxp⟩:=hll.p.form
   simp only at hxt hxp hps
   subst hxt
   subst hxp
   obtain ⟨A,hA⟩:=Int.eq_ofNat_of_zero_le hps.1
   have hA2:(A:Int)≤1099511627776:=by omega
   have cA:wr.cell? ⟨ge,i*12,none⟩=some (.int .i64 (A:Int)):=by rw [← hA]; exact hcell 0 _ (by omega) rfl
   have HC:=Lib.hid (show ∀ (k:Nat) (u:Value),(Qe.cells (⟨xa,xr,.slice xta xr.txns.length xtc,.slice xpa xr.pages.length xpc⟩:Qe))[k]? = some u→wr.cell? ⟨ge,i*12+k,none⟩=some u from fun k u hu=>hcell k u (by have:=(List.getElem?_eq_some_iff.1 hu).1; rwa [Qe.cells_len] at this) hu)
   have hc4:=hcl.out wr (Below.refl _ _)
   have HAA:=Lib.hid hA
   clear hcell hll hps hA
   by_cases hs:(A:Int) / 128 < fi
   ·have hfil:(qk++[(⟨xa,xr,.slice xta xr.txns.length xtc,.slice xpa xr.pages.length xpc⟩:Qe)]).map Qe.ent=((qr.take (i+1)).map Qe.ent).filter (fun x=>decide (x.1.tdiv 128 < (l.first:Int))):=by
     have hs2:xa.tdiv 128 < (l.first:Int):=by
      rw [HAA.out,Int.tdiv_eq_ediv_of_nonneg (by omega),HU.out.2]
      exact hs
     rw [HTK.out,filter_snoc]
     split
     ·rw [List.map_append,HQ.out]
      rfl
     ·rename_i hn
      exact absurd hs2 hn
    have HFIL:=Lib.hid hfil
    clear hfil
    go_wp2_with fail
    go_quiet (fail)
    have hb3:=drewN_below wr nq
    have ST3:=Lib.hid (ST.out.more hb3)
    have CR:Hid (∀ W,Below (wr.drewN nq).heap.size (wr.drewN nq) W→W.rangeAt ge (i*12) [.int .i64 xa,.int .i64 xr.kind,.int .i64 xr.txn,.int .i64 xr.page,.int .i64 xr.off,.int .i64 xr.prev,.int .i64 xr.next,.int .i64 xr.beg,.string xr.before,.string xr.after,.slice xta xr.txns.length xtc,.slice xpa xr.pages.length xpc]∧W.cell? ⟨g,1,none⟩=some vt):=fun W hW =>
     ⟨fun k u hk=>((below2 hb3 hW).cell (p:=⟨ge,i*12+k,none⟩) hge).trans (HC.out k u hk),(ST3.out.more hW).head.cell 1⟩
    obtain ⟨ta,tc,hvt⟩:=own_slice ST3.out.own.own
    have hqk2:(q++qk).length≤40007168:=by rw [List.length_append]; omega
    clear hb3 cA hc4 HC ST hge
    generalize wr.drewN nq=w3 at *
    obtain ⟨NQ,hNQ⟩:∃ N:Nat,(q++qk).length=N:=⟨_,rfl⟩
    have OWN:Hid (∀ W,Below w3.heap.size w3 W→W.ownsRow 0 108 12 vt NQ (entsV (q++qk))):=fun W hW=>by rw [← hNQ]; exact (ST3.out.more hW).own.own
    rw [hNQ] at hvt hqk2
    have HNQ:=Lib.hid hNQ
    clear hNQ
    subst hvt
    go_upto_region 9 with fail
    refine' wp_region_free [0] 10 (.is (.pointer (some ⟨g,0,none⟩))::.is _::.is _::.is _::.is _::.is _::.is _::.is _::.is (.agg #[.int .i64 xa,.int .i64 xr.kind,.int .i64 xr.txn,.int .i64 xr.page,.int .i64 xr.off,.int .i64 xr.prev,.int .i64 xr.next,.int .i64 xr.beg,.string xr.before,.string xr.after,.slice xta xr.txns.length xtc,.slice xpa xr.pages.length xpc])::.slice w3.heap.size 1 108 #[.int .i64 xa,.int .i64 xr.kind,.int .i64 xr.txn,.int .i64 xr.page,.int .i64 xr.off,.int .i64 xr.prev,.int .i64 xr.next,.int .i64 xr.beg,.string xr.before,.string xr.after,.slice xta xr.txns.length xtc,.slice xpa xr.pages.length xpc]::[]) (by kernel_rfl) (by kernel_rfl) (by kernel_rfl) (by kernel_rfl) (by kernel_rfl) rfl ⟨rfl,trivial⟩ (fun _ _ _ _ _ h=>h) ?main
    case main =>
     iterate 8
      refine obs_is (fun w8 hE2 _=>?_) ?_
      ·obtain ⟨-,c1⟩:=CR.out w8 ((Below.refl w3.heap.size w3).drew.trans hE2)
       clear hE2
       go_wp2_with fail
       exact post_is (Below.refl _ _)
      simp only [Act.put,sA,sB,sC]
     refine obs_is (fun w8 hE2 _=>?_) ?_
     ·obtain ⟨hrg,-⟩:=CR.out w8 ((Below.refl w3.heap.size w3).drew.trans hE2)
      have HRG:=Lib.hid hrg
      clear hE2 hrg
      go_wp2_with (refine wpList_load_mid rfl 108 _ rfl ge (i*12) rfl [.int .i64 xa,.int .i64 xr.kind,.int .i64 xr.txn,.int .i64 xr.page,.int .i64 xr.off,.int .i64 xr.prev,.int .i64 xr.next,.int .i64 xr.beg,.string xr.before,.string xr.after,.slice xta xr.txns.length xtc,.slice xpa xr.pages.length xpc] _ HRG.out Tryz.underlying108 rfl (by kernel_rfl) ?_)
      exact post_is (Below.refl _ _)
     simp only [Act.put,sA,sB,sC]
     refine obs_slice (fun w8 hE2 _=>?_) (fun q9=>?_)
     ·go_wp2
      exact ⟨_,rfl,⟨w8.heap.size,hE2.size,rfl,Blk.new _ _ _⟩,(Below.refl _ _).alloc (Nat.le_refl _) _⟩
     simp only [Act.put,sA,sB,sC]
     refine obs_end fun w8 hE3 hkn=>?_
     obtain ⟨g9,_,rfl,hb9⟩:∃ g9,w3.heap.size≤g9∧q9=.slice (some ⟨g9,0,none⟩) 1 1∧Blk w8 g9 108 #[.int .i64 xa,.int .i64 xr.kind,.int .i64 xr.txn,.int .i64 xr.page,.int .i64 xr.off,.int .i64 xr.prev,.int .i64 xr.next,.int .i64 xr.beg,.string xr.before,.string xr.after,.slice xta xr.txns.length xtc,.slice xpa xr.pages.length xpc]:=hkn _ (List.mem_cons_self ..)
     have hB8:=(Below.refl w3.heap.size w3).drew.trans hE3
     have ST8:=Lib.hid (ST3.out.more hB8)
     have OW8:=Lib.hid (OWN.out w8 hB8)
     have c1:=(CR.out w8 hB8).2
     have PUSH:Hid (∀ w9 v',w9.ownsRow 0 108 12 v' (NQ+1) (entsV (q++qk)++[.int .i64 xa,.int .i64 xr.kind,.int .i64 xr.txn,.int .i64 xr.page,.int .i64 xr.off,.int .i64 xr.prev,.int .i64 xr.next,.int .i64 xr.beg,.string xr.before,.string xr.after,.slice xta xr.txns.length xtc,.slice xpa xr.pages.length xpc])→w8.grownBy w9 (Value.slice ta NQ tc).ownBlock→(v'.ownBlock=(Value.slice ta NQ tc).ownBlock∨v'.ownBlock=some w8.heap.size)→_):=fun w9 v' h1 h2 h3=>ST8.out.push (v':=v') HMQ.out (by rw [HNQ.out]; exact h1) h2 h3
     obtain ⟨hi0,hz0,hz1,hz2⟩:=HI.out
     clear hkn hE3 hB8 CR OWN ST3
     change wpList _ _ _ _ _ _
     go_wp2_with (at_builtin; refine wpList_append_own_at _ rfl (.tmp 46) (.tmp 51) 40 rfl 0 108 i0 _ 12 144 Tryz.underlying40 hi0 hz0 hz1 hz2 rfl (by decide) _ _ _ rfl OW8.out ⟨g9,0,none⟩ 1 1 [.int .i64 xa,.int .i64 xr.kind,.int .i64 xr.txn,.int .i64 xr.page,.int .i64 xr.off,.int .i64 xr.prev,.int .i64 xr.next,.int .i64 xr.beg,.string xr.before,.string xr.after,.slice xta xr.txns.length xtc,.slice xpa xr.pages.length xpc] rfl rfl (World.news_of_block hb9) (by simp [Value.oneCell']) (by simp only [maxLen]; omega) (by omega) (Nat.zero_le _) ?_)
     intro v' w9 hown hgrow _ hat
     obtain ⟨B9,AT⟩:=PUSH.out w9 v' hown hgrow hat
     have c1:=B9.cell 1
     have f1:=B9.frozen 1
     simp [rtCells] at c1
     have HAT:=Lib.hid AT
     obtain ⟨a',c',hv'⟩:=own_slice hown
     clear hown hgrow hat B9 AT PUSH OW8 ST8 hb9 hi0 hz0 hz1 hz2
     subst hv'
     go_wp2_with fail
     go_roundw
     case rel=>exact ⟨i+1,qk++[⟨xa,xr,.slice xta xr.txns.length xtc,.slice xpa xr.pages.length xpc⟩],_,by go_num,by omega,by simp,by simp; omega,HAT.out,HFIL.out⟩
     case measure=>simp [intOf]; omega
   ·have hfil:qk.map Qe.ent=((qr.take (i+1)).map Qe.ent).filter (fun x=>decide (x.1.tdiv 128 < (l.first:Int))):=by
     have hs2:¬ xa.tdiv 128 < (l.first:Int):=by
      rw [HAA.out,Int.tdiv_eq_ediv_of_nonneg (by omega),HU.out.2]
      exact hs
     rw [HTK.out,filter_snoc]
     split
     ·rename_i hn
      exact absurd hn hs2
     · rw [List.append_nil,HQ.out]
    have HFIL:=Lib.hid hfil
    clear hfil
    go_wp2_with fail
    go_quiet (fail)
    have FIN:=Lib.hid (ST.out.more (drewN_below wr nq))
    clear ST cA hc4 HC hge
    generalize wr.drewN nq=w3 at *
    go_wp2_with fail
    go_roundw
    case rel=>exact ⟨i+1,qk,vt,by go_num,by omega,rfl,by omega,FIN.out,HFIL.out⟩
    case measure=>simp [intOf]; omega
  ·obtain rfl:i=qr.length:=by omega
   have HFR:Hid (qk.map Qe.ent=t.fresh l):=by
    rw [Hid,HQ.out,List.take_length,HQR.out]
    rfl
   obtain ⟨M,hM⟩:∃ M:Nat,max t.upto l.first=M:=⟨_,rfl⟩
   have hMi:(if u < fi then fi else u)=(M:Int):=by
    have h1:=HU.out.1
    have h2:=HU.out.2
    split <;> omega
   have hMx:max u fi=(M:Int):=by
    have h1:=HU.out.1
    have h2:=HU.out.2
    omega
   have DONE:Hid (∀ W,Below wr.heap.size wr W→Blk W g 42 (rtCells t vt)∧∃ F',IsRt (W.setCell ⟨g,0,none⟩ (.int .i64 (M:Int))) F' g (t.add l)∧Step F F' w (W.setCell ⟨g,0,none⟩ (.int .i64 (M:Int)))):=fun W hW=>by
    have h8:=ST.out.more hW
    obtain ⟨r1,s1⟩:=h8.done HR.out.ents (fun x hx=>⟨fun hr b hb=>((HR.out.fr x hx).1 hr b hb).1,fun hr b hb=>((HR.out.fr x hx).2 hr b hb).1⟩) HR.out.lt M
    refine ⟨h8.head,_,?_,s1⟩
    have e:t.add l=⟨M,t.l++qk.map Qe.ent⟩:=by
     unfold Tp.add
     rw [if_neg (by have:=HLOW.out; omega),hM,HFR.out]
    rw [e]
    refine ⟨⟨?_,?_,?_,?_⟩,_,_,r1⟩
    ·show 1≤M
     have:=HTOK.out.one
     omega
    ·show M≤4294967296
     have:=HTOK.out.um
     have h2:=HU.out.2
     omega
    ·intro x hx
     rcases List.mem_append.1 hx with hx | hx
     · exact HTOK.out.fit x hx
     ·rw [HFR.out] at hx
      exact (Wl.all_may HL.out.1 x (List.mem_filter.1 (List.mem_filter.1 hx).1).1).fit
    ·show (t.l++qk.map Qe.ent).length≤50000000
     rw [List.length_append,List.length_map]
     have:=HLEN.out
     omega
   have hN:t.addN l=qk.length:=by
    unfold Tp.addN
    rw [if_neg (by have:=HLOW.out; omega),← HFR.out,List.length_map]
   have HN:=Lib.hid hN
   have CU:Hid (∀ W,Below wr.heap.size wr W→W.cell? ⟨g,0,none⟩=some (.int .i64 u)∧W.cell? ⟨gl,4,none⟩=some (.int .i64 fi)):=fun W hW=>⟨by
    have:=(DONE.out W hW).1.cell 0
    rw [← HU.out.1]
    exact this,hcl.out W hW⟩
   clear hM hMi hN hcl ST HQ HFR HQR
   go_upto_region 11 with fail
   refine' wp_region_free [0] 10 (.is (.pointer (some ⟨g,0,none⟩))::.is _::.is _::.is _::.is _::.is _::.is _::.is _::.is _::.is (.int .i64 (M:Int))::[]) (by kernel_rfl) (by kernel_rfl) (by kernel_rfl) (by kernel_rfl) (by kernel_rfl) rfl ⟨rfl,trivial⟩ (fun _ _ _ _ _ h=>h) ?main
   case main =>
    iterate 9
     refine obs_is (fun w8 hE2 _=>?_) ?_
     ·obtain ⟨c0,c4⟩:=CU.out w8 ((Below.refl wr.heap.size wr).drew.trans hE2)
      clear hE2
      go_wp2_with fail
      exact post_is (Below.refl _ _)
     simp only [Act.put,sA,sB,sC]
    refine obs_is (d:=.int .i64 (M:Int)) (fun w8 hE2 _=>?_) ?_
    ·clear hE2
     go_wp2_with fail
     all_goals first
      | (rw [show (M:Int)=fi by omega]; exact post_is (Below.refl _ _))
      | (rw [show (M:Int)=u by omega]; exact post_is (Below.refl _ _))
    simp only [Act.put,sA,sB,sC]
    refine obs_end fun w8 hE3 _=>?_
    obtain ⟨B8,F',fb,fc⟩:=DONE.out w8 ((Below.refl wr.heap.size wr).drew.trans hE3)
    have c0:=B8.cell 0
    have f0:=B8.frozen 0
    simp [rtCells] at c0
    have HFB:=Lib.hid fb
    have HFC:=Lib.hid fc
    clear hE3 B8 fb fc DONE CU
    change wpList _ _ _ _ _ _
    go_wp2_with fail
    go_ret2
    rw [HN.out]
    exact ⟨rfl,F',HFB.out,HFC.out⟩
set_option maxRecDepth 100000 in
set_option maxHeartbeats 4000000 in
theorem rtAdd_state (hT:IsRt w F g t) (hL:IsRL w FL gl gd l) (hlow:t.upto < l.low) :
 Calls Tryz.prog 16 #[.pointer (some ⟨g,0,none⟩),.pointer (some ⟨gl,0,none⟩)] w fun e w'=>e=.returned (.tuple #[.int .i64 0,.int .i64 11])∧Below w.heap.size w w':=by
 obtain ⟨c0,c3,_⟩:=rt_cells hT hL w (Below.refl _ _)
 have hlt:(t.upto:Int) < l.low:=by omega
 clear hT hL hlow
 generalize (t.upto:Int)=u at *
 generalize (l.low:Int)=lo at *
 go_enter Tryz.func16,Tryz.ntmps16
 go_wp2_with fail
 go_quiet (fail)
 go_wp2
 go_ret2
 exact ⟨rfl,drewN_below w _⟩
theorem rtAdd_any (hT:IsRt w F g t) (hL:IsRL w FL gl gd l) (hap:∀ b,F b→¬ FL b) (hlen:t.l.length≤40000000) :
 Calls Tryz.prog 16 #[.pointer (some ⟨g,0,none⟩),.pointer (some ⟨gl,0,none⟩)] w fun e w'=>e=.returned (.tuple #[.int .i64 (t.addN l),.int .i64 (t.err l)])∧∃ F',IsRt w' F' g (t.add l)∧Step F F' w w':=by
 by_cases h:t.upto < l.low
 ·have e1:t.addN l=0:=if_pos h
  have e2:t.err l=11:=if_pos h
  have e3:t.add l=t:=if_pos h
  rw [e1,e2,e3]
  refine (rtAdd_state hT hL h).mono ?_
  rintro e w1 ⟨rfl,hb⟩
  exact ⟨rfl,F,hT.below hb,Step.ofBelow hb⟩
 ·have e2:t.err l=0:=if_neg h
  rw [e2]
  exact rtAdd_ok hT hL hap (by omega) hlen
end
end Go.Proofs.YthkbcfhjmnpggaaGreat
