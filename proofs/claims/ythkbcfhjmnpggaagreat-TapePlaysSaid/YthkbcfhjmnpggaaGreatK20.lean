/- Texts that belong together, joined: TaF, WalT. -/
import Derived.Test.YthkbcfhjmnpggaaGreatK19
import Derived.Test.YthkbcfhjmnpggaaGreatK14
import Derived.Test.YthkbcfhjmnpggaaGreatK18
import Derived.Test.YthkbcfhjmnpggaaGreatK00
import Derived.Test.YthkbcfhjmnpggaaGreatK03
import Derived.Lib.SliceRun
namespace Go.Proofs.YthkbcfhjmnpggaaGreat
open Go.RowKit
set_option maxRecDepth 100000 in
set_option maxHeartbeats 4000000 in
theorem add_bad {w:World} {g:Option Addr} {v:Value} {er:Int} (hr:Calls Tryz.prog 49 #[.pointer g,v] w fun e w'=>e=.returned (.tuple #[.slice none 0 0,.int .i64 er])∧w=w') (he:er=10∨er=11) :
 Calls Tryz.prog 15 #[.pointer g,v] w fun e w'=>e=.returned (.tuple #[.int .i64 0,.int .i64 er])∧w=w':=by
 have K:=Lib.hid hr
 clear hr
 rcases he with rfl | rfl
 all_goals
  go_enter Tryz.func15,Tryz.ntmps15
  go_wp2_with fail
  refine K.out.mono ?_
  rintro e w1 ⟨rfl,rfl⟩
  go_wp2
  go_ret2
  exact ⟨rfl,rfl⟩
theorem TpR.moved {w:World} {F:Foot} {g:Nat} {t:Tp} {v:Value} {q:List Qe} (h:TpR w F g t v q) (x:Int) (m:Nat) (hx:x=(m:Int) - 1):TpR (w.setCell ⟨g,0,none⟩ (.int .i64 x)) F g { t with upto:=m } v q∧Step F F w (w.setCell ⟨g,0,none⟩ (.int .i64 x)):=by
 subst hx
 have hst:Step F F w (w.setCell ⟨g,0,none⟩ (.int .i64 ((m:Int) - 1))):=(Step.refl F w).set (p:=⟨g,0,none⟩) h.fg _
 have ho:Only (· = g) w (w.setCell ⟨g,0,none⟩ (.int .i64 ((m:Int) - 1))):=(Only.refl (· = g) w).set (p:=⟨g,0,none⟩) (.inl rfl) _
 refine ⟨⟨h.head.set 0 _,⟨own_only h.own.own ho fun b hb e=>by subst e; exact h.vg hb,fun x hx=>(h.own.lists x hx).keepA ho (fun hr b hb e=>((h.fr x hx).1 hr b hb).2 e) (fun hr b hb e=>((h.fr x hx).2 hr b hb).2 e),h.own.apart⟩,h.ents,h.fg,h.fv,h.fr,fun b hF=>by simpa [World.setCell] using h.lt b hF⟩,hst⟩
def intCell (w:World) (g:Nat):Int:=match w.cell? ⟨g,0,none⟩ with
 | some (.int _ x)=>x
 | _=>0
section
variable {w:World} {F FL:Foot} {g gl gd:Nat} {t:Tp} {l:Wl}
set_option maxRecDepth 100000 in
set_option maxHeartbeats 8000000 in
theorem add_ok (hT:IsTp w F g t) (hL:IsLog w FL gl gd l) (hap:∀ b,F b→¬ FL b) (hlow:l.low≤t.upto) (hlen:t.l.length≤40000000) :
 Calls Tryz.prog 15 #[.pointer (some ⟨g,0,none⟩),.pointer (some ⟨gl,0,none⟩)] w fun e w'=>e=.returned (.tuple #[.int .i64 (t.addN l),.int .i64 0])∧∃ F',IsTp w' F' g (t.add l)∧Step F F' w w':=by
 have REST:=Lib.hid (rest_ok hT hL hlow)
 have HL:=Lib.hid hL
 have HAP:=Lib.hid hap
 have HLOW:=Lib.hid hlow
 have HLEN:=Lib.hid hlen
 obtain ⟨tok,v,q,r⟩:=hT
 have HTOK:=Lib.hid tok
 have HR:=Lib.hid r
 clear hL hap hlow hlen tok r
 go_enter Tryz.func15,Tryz.ntmps15
 go_wp2_with fail
 refine REST.out.mono ?_
 rintro e w1 ⟨vr,qr,rfl,hqr,hor,hb1,hfr⟩
 have HQ:=Lib.hid hqr
 have HO:=Lib.hid hor
 have HB1:=Lib.hid hb1
 have HF:=Lib.hid hfr
 have hqlen:qr.length≤7168:=by
  have e:=congrArg List.length hqr
  rw [List.length_map] at e
  have h1:=Wl.all_count HL.out.1
  have h2:(t.behind l).length≤l.all.length:=List.length_filter_le _ _
  omega
 obtain ⟨va,vc,hvs⟩:=own_slice hor.own
 subst hvs
 clear hqr hor hb1 hfr REST
 go_wp2_with fail
 go_loopw [4] (fun vk wr=>∃ k:Nat,vk=.int .i64 k∧k≤qr.length∧(∀ j (hj:j < qr.length),j < k→qr[j].at_.tdiv 128 < (l.first:Int))∧Below w1.heap.size w1 wr) (fun vk _=>qr.length - (intOf vk).toNat)
 case atStart=>exact ⟨0,rfl,Nat.zero_le _,fun j _ h=>by omega,Below.refl _ _⟩
 case round =>
  obtain ⟨k,rfl,hk,hsf,hbr⟩:=hrel
  have SF:=Lib.hid hsf
  have HBR:=Lib.hid hbr
  have HO2:=Lib.hid (HO.out.keep hbr)
  clear hsf hbr
  by_cases hlt:k < qr.length
  ·have hki:(k:Int) < qr.length:=by omega
   obtain ⟨gq,cq,hvq,hcq,hcm⟩:=own_form HO2.out.own (by omega)
   cases hvq
   have c0:wr.cell? ⟨gq,k*12,none⟩=some (.int .i64 qr[k].at_):=by
    have:=HO2.out.own.cellAt (g:=gq) (k*12) (by omega)
    rw [this]
    have e:=entsV_at qr k hlt 0 (by omega)
    simpa [Qe.cells] using e
   have hpos:(0:Int)≤qr[k].at_∧qr[k].at_≤1099511627776:=by
    have hm:(qr[k].at_,qr[k].r) ∈ l.all:=by
     have h1:(qr[k].at_,qr[k].r) ∈ qr.map Qe.ent:=List.mem_map.2 ⟨qr[k],List.getElem_mem hlt,rfl⟩
     rw [HQ.out] at h1
     exact (List.mem_filter.1 h1).1
    have h1:=Wl.all_low HL.out.1 _ hm
    have h2:=Wl.all_end HL.out.1 _ hm
    have h3:=HL.out.1.lm
    have h4:=HL.out.1.len
    have h5:=HL.out.1.s64
    unfold Wl.end_ at h2
    simp only at h1 h2
    omega
   obtain ⟨a,ha⟩:=Int.eq_ofNat_of_zero_le hpos.1
   have hdv:qr[k].at_.tdiv 128=((a / 128:Nat):Int):=by rw [ha,Int.tdiv_eq_ediv_of_nonneg (by omega)]; omega
   have SAFE:Hid (∀ W,Below wr.heap.size wr W→Calls Tryz.prog 50 #[.pointer (some ⟨gl,0,none⟩),.int .i64 (a:Int)] W fun e w'=>e=.returned (.bool (decide (a / 128 < l.first)))∧W=w'):=fun W hW =>
    safe_any ((HL.out.below (below2 HB1.out HBR.out)).below hW) a (by omega) _ rfl
   rw [ha] at c0
   have HDV:=Lib.hid hdv
   clear ha hpos hdv HO2
   by_cases hsafe:a / 128 < l.first
   ·have hd:decide (a / 128 < l.first)=true:=decide_eq_true hsafe
    rw [hd] at SAFE
    have HS:=Lib.hid hsafe
    clear hsafe hd
    go_wp2_with fail
    refine (SAFE.out _ (by exact Below.refl _ _)).mono ?_
    rintro e w2 ⟨rfl,rfl⟩
    go_wp2_with fail
    exact ⟨⟨k+1,by go_num,by omega,fun j hj hjk=>by
     by_cases e:j=k
     ·subst e
      rw [HDV.out]
      have:=HS.out
      omega
     · exact SF.out j hj (by omega),HBR.out⟩,by simp [intOf]; omega⟩
   ·have STOP:Hid (∀ h:k < qr.length,¬ qr[k].at_.tdiv 128 < (l.first:Int)):=fun h=>by rw [HDV.out]; omega
    have hd:decide (a / 128 < l.first)=false:=decide_eq_false hsafe
    rw [hd] at SAFE
    clear hsafe hd HDV
    go_wp2_with fail
    refine (SAFE.out _ (by exact Below.refl _ _)).mono ?_
    rintro e w2 ⟨rfl,rfl⟩
    clear c0 SAFE
    have FRESH:Hid (t.fresh l=(qr.take k).map Qe.ent):=by
     have hb:=HQ.out
     have hle:(t.behind l).length=qr.length:=by rw [← hb,List.length_map]
     have hg:∀ j (h1:j < (t.behind l).length) (h2:j < qr.length),(t.behind l)[j].1=qr[j].at_:=fun j h1 h2=>by
      have:(t.behind l)[j]? = (qr.map Qe.ent)[j]?:=by rw [hb]
      rw [List.getElem?_eq_getElem h1,List.getElem?_map,List.getElem?_eq_getElem h2] at this
      exact congrArg Prod.fst (Option.some.inj this)
     rw [Hid,Tp.fresh_take HL.out.1 k (by omega) (fun j hj hjk=>by rw [hg j hj (by omega)]; exact SF.out j (by omega) hjk) (fun hk2=>by rw [hg k hk2 (by omega)]; have hs:=STOP.out (by omega); omega),← hb,List.map_take]
    have HBW:=Lib.hid (below2 HB1.out HBR.out)
    have HO3:=Lib.hid (HO.out.keep HBR.out)
    obtain ⟨y,hy,hsrc⟩:=ta_upto HO3.out k hk
    have HSRC:=Lib.hid hsrc
    have HK:=Lib.hid hk
    have hqt:q.length≤40000000:=by
     have e:=congrArg List.length HR.out.ents
     rw [List.length_map] at e
     have:=HLEN.out
     omega
    have CV:Hid (∀ W,Below w.heap.size w W→W.cell? ⟨g,1,none⟩=some v):=fun W hW=>(HR.out.below hW).cells.2
    obtain ⟨tva,tvc,htv⟩:=own_slice HR.out.own.own
    subst htv
    obtain ⟨i0,hi0,hz0,hz1,hz2⟩:=info_parts ta_info
    have HI:=Lib.hid (And.intro hi0 (And.intro hz0 (And.intro hz1 hz2)))
    clear hsrc STOP SF HO hi0 hz0 hz1 hz2
    go_upto_region 6 with fail
    refine' wp_region_free [0] 8 [.is (.pointer (some ⟨g,0,none⟩)),.is _,.is _,.is _,.is _,.is _,.is _,.is _] (by kernel_rfl) (by kernel_rfl) (by kernel_rfl) (by kernel_rfl) (by kernel_rfl) rfl ⟨rfl,trivial⟩ (fun _ _ _ _ _ h=>h) ?main
    case main =>
     iterate 8
      refine obs_is (fun w8 hE2 _=>?_) ?_
      ·have c1:=CV.out w8 (below2 HBW.out ((Below.refl wr.heap.size wr).drew.trans hE2))
       clear hE2
       go_wp2_with fail
       exact post_is (Below.refl _ _)
      simp only [Act.put,sA,sB,sC]
     refine obs_end fun w8 hE3 _=>?_
     have hB8:=(Below.refl wr.heap.size wr).drew.trans hE3
     have hb8:=below2 HBW.out hB8
     have S8:=Lib.hid (HSRC.out w8 (HO3.out.keep hB8))
     have R8:=Lib.hid (HR.out.below hb8)
     have ADD:Hid (∀ w9 v',w9.ownsRow 0 108 12 v' (q.length+k) (entsV q++entsV (qr.take k))→w8.grownBy w9 (Value.slice tva q.length tvc).ownBlock→(v'.ownBlock=(Value.slice tva q.length tvc).ownBlock∨v'.ownBlock=some w8.heap.size)→_):=fun w9 v' h1 h2 h3 =>
      HR.out.added (v':=v') (qr:=qr.take k) hb8 (fun x hx=>(HO3.out.keep hB8).lists x (List.mem_of_mem_take hx)) (fun x hx=>HF.out x (List.mem_of_mem_take hx)) (by rw [List.length_take,Nat.min_eq_left HK.out]; exact h1) h2 h3
     clear hE3 hB8 hb8 HSRC HO3 CV hy
     obtain ⟨hi0,hz0,hz1,hz2⟩:=HI.out
     go_wp2_with (at_builtin; refine wpList_append_src rfl (.tmp 35) (.tmp 38) 40 rfl 0 108 i0 _ 12 144 Tryz.underlying40 hi0 hz0 hz1 hz2 rfl (by decide) _ _ _ rfl R8.out.own.own y k (entsV (qr.take k)) rfl S8.out (by simp only [maxLen]; omega) (by omega) (Nat.zero_le _) ?_)
     intro v' w9 hown hgrow hat
     obtain ⟨B9,r10,st10⟩:=ADD.out w9 v' hown hgrow hat
     obtain ⟨a',c',hv'⟩:=own_slice hown
     have c1:=B9.cell 1
     have f1:=B9.frozen 1
     simp [tpCells] at c1
     clear hown hgrow hat B9 ADD R8 S8 hi0 hz0 hz1 hz2 HI
     subst hv'
     have HR10:=Lib.hid r10
     have HS10:=Lib.hid st10
     clear r10 st10
     go_wp2_with fail
     have hAP10:Hid (∀ b,(F b∨(w.heap.size≤b∧b < w9.heap.size))→¬ FL b):=fun b hb hl=>by
      rcases hb with hb | hb
      · exact HAP.out b hb hl
      · have:=HL.out.lt b hl; omega
     have HBND:Hid (∀ W,Step F (fun b=>F b∨(w.heap.size≤b∧b < w9.heap.size)) w W→IsLog W FL gl gd l):=fun W hW=>HL.out.only (S:=F) ⟨hW.os,hW.tape,hW.output,hW.size,hW.block⟩ fun b hl hf=>HAP.out b hf hl
     have HFIN:Hid (t.addN l=k∧∀ m:Nat,m=max t.upto l.first→(⟨m,t.l++(qr.take k).map Qe.ent⟩:Tp)=t.add l):=by
      have h0:¬ t.upto < l.low:=by have:=HLOW.out; omega
      refine ⟨?_,fun m hm=>?_⟩
      ·unfold Tp.addN
       rw [if_neg h0,FRESH.out,List.length_map,List.length_take,Nat.min_eq_left HK.out]
      ·unfold Tp.add
       rw [if_neg h0,FRESH.out,hm]
     have HFIT:Hid (∀ m:Nat,1≤m→m≤4294967296→(⟨m,t.l++(qr.take k).map Qe.ent⟩:Tp).Ok):=fun m h1 h2=>by
      refine ⟨h1,h2,fun x hx=>?_,?_⟩
      ·rcases List.mem_append.1 hx with hx | hx
       · exact HTOK.out.fit x hx
       ·rw [← FRESH.out] at hx
        exact (Wl.all_may HL.out.1 x (List.mem_filter.1 (List.mem_filter.1 hx).1).1).fit
      ·show (t.l++(qr.take k).map Qe.ent).length≤50000000
       rw [List.length_append,List.length_map,List.length_take]
       have:=HLEN.out
       omega
     have HFI:Hid (l.first≤2147483711):=by
      have h1:=HL.out.1.fe; have h2:=HL.out.1.lm; have h3:=HL.out.1.len; have h4:=HL.out.1.s64
      unfold Wl.end_ at h1
      rw [Hid]
      omega
     generalize hF':(fun b=>F b∨(w.heap.size≤b∧b < w9.heap.size))=F' at *
     generalize w9.setCell ⟨g,1,none⟩ (Value.slice a' (q.length+k) c')=w10 at *
     have hF2:∀ b,F' b=(F b∨(w.heap.size≤b∧b < w9.heap.size)):=fun b=>by rw [← hF']
     have HF2:=Lib.hid hF2
     clear hF' hF2 HAP HLEN HLOW HQ HB1 HF HBR HBW HK FRESH c1 f1 HR
     go_loopw [] (fun wr=>∃ m:Nat,t.upto≤m∧(m=t.upto∨m≤l.first)∧TpR wr F' g ⟨m,t.l++(qr.take k).map Qe.ent⟩ (Value.slice a' (q.length+k) c') (q++qr.take k)∧Step F F' w wr) (fun wr=>(l.first:Int).toNat - (intCell wr g).toNat)
     case atStart=>exact ⟨t.upto,Nat.le_refl _,.inl rfl,HR10.out,HS10.out⟩
     case round =>
      obtain ⟨m,h1,h2,hr,hs⟩:=hrel
      have RR:=Lib.hid hr
      have SS:=Lib.hid hs
      have hm1:1≤m:=by have:=HTOK.out.one; omega
      have hm2:m≤4294967296:=by have:=HTOK.out.um; have:=HFI.out; omega
      have hmi:(m:Int)≤4294967296:=by omega
      have H12:=Lib.hid (And.intro h1 h2)
      have UP:Hid (∀ W,Below wr.heap.size wr W→Calls Tryz.prog 30 #[.pointer (some ⟨g,0,none⟩)] W fun e w'=>e=.returned (.int .i64 m)∧W=w'):=fun W hW=>upto_any (t:=⟨m,t.l++(qr.take k).map Qe.ent⟩) ⟨HFIT.out m hm1 hm2,_,_,RR.out.below hW⟩
      have SF2:Hid (∀ W,Below wr.heap.size wr W→Calls Tryz.prog 50 #[.pointer (some ⟨gl,0,none⟩),.int .i64 ((m:Int)*128)] W fun e w'=>e=.returned (.bool (decide (m < l.first)))∧W=w'):=fun W hW=>by
       have:=safe_any ((HBND.out _ SS.out).below hW) (m*128) (by omega) (decide (m < l.first)) (decide_eq_decide.2 (by omega))
       rw [show ((m*128:Nat):Int)=(m:Int)*128 by omega] at this
       exact this
      clear hr hs h1 h2
      by_cases hgo:m < l.first
      ·have hd:decide (m < l.first)=true:=decide_eq_true hgo
       rw [hd] at SF2
       obtain ⟨s,hs⟩:∃ s:Int,s=(m:Int) - 1:=⟨_,rfl⟩
       have c0:wr.cell? ⟨g,0,none⟩=some (.int .i64 s):=by rw [hs]; exact RR.out.cells.1
       have f0:=RR.out.head.frozen 0
       have hs0:0≤s:=by omega
       have hs1:s≤4294967296:=by omega
       obtain ⟨n1,n2⟩:=RR.out.moved (s+1) (m+1) (by omega)
       have HN1:=Lib.hid n1
       have HN2:=Lib.hid (SS.out.trans n2)
       have HGO:=Lib.hid hgo
       have hic:intCell wr g=s:=by unfold intCell; rw [c0]
       have hic2:intCell (wr.setCell ⟨g,0,none⟩ (.int .i64 (s+1))) g=s+1:=by unfold intCell; rw [HN1.out.cells.1]; simp only; omega
       have HM:Hid ((l.first:Int).toNat - (intCell (wr.setCell ⟨g,0,none⟩ (.int .i64 (s+1))) g).toNat < (l.first:Int).toNat - (intCell wr g).toNat):=by rw [Hid,hic,hic2]; omega
       have HS:=Lib.hid hs
       clear n1 n2 hgo hd hic hic2 hs
       go_wp2_with fail
       refine (UP.out _ (by exact Below.refl _ _)).mono ?_
       rintro e w2 ⟨rfl,rfl⟩
       go_wp2_with fail
       refine (SF2.out _ (by exact Below.refl _ _)).mono ?_
       rintro e w2 ⟨rfl,rfl⟩
       go_wp2_with fail
       refine ⟨⟨m+1,by have:=H12.out; omega,.inr HGO.out,HN1.out,HN2.out⟩,HM.out⟩
      ·have hd:decide (m < l.first)=false:=decide_eq_false hgo
       rw [hd] at SF2
       have HGO:=Lib.hid hgo
       clear hgo hd
       go_wp2_with fail
       refine (UP.out _ (by exact Below.refl _ _)).mono ?_
       rintro e w2 ⟨rfl,rfl⟩
       go_wp2_with fail
       refine (SF2.out _ (by exact Below.refl _ _)).mono ?_
       rintro e w2 ⟨rfl,rfl⟩
       go_wp2
       go_ret2
       have hmx:m=max t.upto l.first:=by have:=H12.out; have:=HGO.out; omega
       have hm1:1≤m:=by have:=HTOK.out.one; omega
       have hm2:m≤4294967296:=by have:=HTOK.out.um; have:=HFI.out; omega
       rw [HFIN.out.1]
       refine ⟨rfl,F',?_,SS.out⟩
       rw [← HFIN.out.2 m hmx]
       exact ⟨HFIT.out m hm1 hm2,_,_,RR.out⟩
  ·have STOP:Hid (∀ h:k < qr.length,¬ qr[k].at_.tdiv 128 < (l.first:Int)):=fun h=>absurd h hlt
   have FRESH:Hid (t.fresh l=(qr.take k).map Qe.ent):=by
    have hb:=HQ.out
    have hle:(t.behind l).length=qr.length:=by rw [← hb,List.length_map]
    have hg:∀ j (h1:j < (t.behind l).length) (h2:j < qr.length),(t.behind l)[j].1=qr[j].at_:=fun j h1 h2=>by
     have:(t.behind l)[j]? = (qr.map Qe.ent)[j]?:=by rw [hb]
     rw [List.getElem?_eq_getElem h1,List.getElem?_map,List.getElem?_eq_getElem h2] at this
     exact congrArg Prod.fst (Option.some.inj this)
    rw [Hid,Tp.fresh_take HL.out.1 k (by omega) (fun j hj hjk=>by rw [hg j hj (by omega)]; exact SF.out j (by omega) hjk) (fun hk2=>by rw [hg k hk2 (by omega)]; have hs:=STOP.out (by omega); omega),← hb,List.map_take]
   have HBW:=Lib.hid (below2 HB1.out HBR.out)
   have HO3:=Lib.hid (HO.out.keep HBR.out)
   obtain ⟨y,hy,hsrc⟩:=ta_upto HO3.out k hk
   have HSRC:=Lib.hid hsrc
   have HK:=Lib.hid hk
   have hqt:q.length≤40000000:=by
    have e:=congrArg List.length HR.out.ents
    rw [List.length_map] at e
    have:=HLEN.out
    omega
   have CV:Hid (∀ W,Below w.heap.size w W→W.cell? ⟨g,1,none⟩=some v):=fun W hW=>(HR.out.below hW).cells.2
   obtain ⟨tva,tvc,htv⟩:=own_slice HR.out.own.own
   subst htv
   obtain ⟨i0,hi0,hz0,hz1,hz2⟩:=info_parts ta_info
   have HI:=Lib.hid (And.intro hi0 (And.intro hz0 (And.intro hz1 hz2)))
   clear hsrc STOP SF HO hi0 hz0 hz1 hz2
   go_upto_region 6 with fail
   refine' wp_region_free [0] 8 [.is (.pointer (some ⟨g,0,none⟩)),.is _,.is _,.is _,.is _,.is _,.is _,.is _] (by kernel_rfl) (by kernel_rfl) (by kernel_rfl) (by kernel_rfl) (by kernel_rfl) rfl ⟨rfl,trivial⟩ (fun _ _ _ _ _ h=>h) ?main
   case main =>
    iterate 8
     refine obs_is (fun w8 hE2 _=>?_) ?_
     ·have c1:=CV.out w8 (below2 HBW.out ((Below.refl wr.heap.size wr).drew.trans hE2))
      clear hE2
      go_wp2_with fail
      exact post_is (Below.refl _ _)
     simp only [Act.put,sA,sB,sC]
    refine obs_end fun w8 hE3 _=>?_
    have hB8:=(Below.refl wr.heap.size wr).drew.trans hE3
    have hb8:=below2 HBW.out hB8
    have S8:=Lib.hid (HSRC.out w8 (HO3.out.keep hB8))
    have R8:=Lib.hid (HR.out.below hb8)
    have ADD:Hid (∀ w9 v',w9.ownsRow 0 108 12 v' (q.length+k) (entsV q++entsV (qr.take k))→w8.grownBy w9 (Value.slice tva q.length tvc).ownBlock→(v'.ownBlock=(Value.slice tva q.length tvc).ownBlock∨v'.ownBlock=some w8.heap.size)→_):=fun w9 v' h1 h2 h3 =>
     HR.out.added (v':=v') (qr:=qr.take k) hb8 (fun x hx=>(HO3.out.keep hB8).lists x (List.mem_of_mem_take hx)) (fun x hx=>HF.out x (List.mem_of_mem_take hx)) (by rw [List.length_take,Nat.min_eq_left HK.out]; exact h1) h2 h3
    clear hE3 hB8 hb8 HSRC HO3 CV hy
    obtain ⟨hi0,hz0,hz1,hz2⟩:=HI.out
    go_wp2_with (at_builtin; refine wpList_append_src rfl (.tmp 35) (.tmp 38) 40 rfl 0 108 i0 _ 12 144 Tryz.underlying40 hi0 hz0 hz1 hz2 rfl (by decide) _ _ _ rfl R8.out.own.own y k (entsV (qr.take k)) rfl S8.out (by simp only [maxLen]; omega) (by omega) (Nat.zero_le _) ?_)
    intro v' w9 hown hgrow hat
    obtain ⟨B9,r10,st10⟩:=ADD.out w9 v' hown hgrow hat
    obtain ⟨a',c',hv'⟩:=own_slice hown
    have c1:=B9.cell 1
    have f1:=B9.frozen 1
    simp [tpCells] at c1
    clear hown hgrow hat B9 ADD R8 S8 hi0 hz0 hz1 hz2 HI
    subst hv'
    have HR10:=Lib.hid r10
    have HS10:=Lib.hid st10
    clear r10 st10
    go_wp2_with fail
    have hAP10:Hid (∀ b,(F b∨(w.heap.size≤b∧b < w9.heap.size))→¬ FL b):=fun b hb hl=>by
     rcases hb with hb | hb
     · exact HAP.out b hb hl
     · have:=HL.out.lt b hl; omega
    have HBND:Hid (∀ W,Step F (fun b=>F b∨(w.heap.size≤b∧b < w9.heap.size)) w W→IsLog W FL gl gd l):=fun W hW=>HL.out.only (S:=F) ⟨hW.os,hW.tape,hW.output,hW.size,hW.block⟩ fun b hl hf=>HAP.out b hf hl
    have HFIN:Hid (t.addN l=k∧∀ m:Nat,m=max t.upto l.first→(⟨m,t.l++(qr.take k).map Qe.ent⟩:Tp)=t.add l):=by
     have h0:¬ t.upto < l.low:=by have:=HLOW.out; omega
     refine ⟨?_,fun m hm=>?_⟩
     ·unfold Tp.addN
      rw [if_neg h0,FRESH.out,List.length_map,List.length_take,Nat.min_eq_left HK.out]
     ·unfold Tp.add
      rw [if_neg h0,FRESH.out,hm]
    have HFIT:Hid (∀ m:Nat,1≤m→m≤4294967296→(⟨m,t.l++(qr.take k).map Qe.ent⟩:Tp).Ok):=fun m h1 h2=>by
     refine ⟨h1,h2,fun x hx=>?_,?_⟩
     ·rcases List.mem_append.1 hx with hx | hx
      · exact HTOK.out.fit x hx
      ·rw [← FRESH.out] at hx
       exact (Wl.all_may HL.out.1 x (List.mem_filter.1 (List.mem_filter.1 hx).1).1).fit
     ·show (t.l++(qr.take k).map Qe.ent).length≤50000000
      rw [List.length_append,List.length_map,List.length_take]
      have:=HLEN.out
      omega
    have HFI:Hid (l.first≤2147483711):=by
     have h1:=HL.out.1.fe; have h2:=HL.out.1.lm; have h3:=HL.out.1.len; have h4:=HL.out.1.s64
     unfold Wl.end_ at h1
     rw [Hid]
     omega
    generalize hF':(fun b=>F b∨(w.heap.size≤b∧b < w9.heap.size))=F' at *
    generalize w9.setCell ⟨g,1,none⟩ (Value.slice a' (q.length+k) c')=w10 at *
    have hF2:∀ b,F' b=(F b∨(w.heap.size≤b∧b < w9.heap.size)):=fun b=>by rw [← hF']
    have HF2:=Lib.hid hF2
    clear hF' hF2 HAP HLEN HLOW HQ HB1 HF HBR HBW HK FRESH c1 f1 HR
    go_loopw [] (fun wr=>∃ m:Nat,t.upto≤m∧(m=t.upto∨m≤l.first)∧TpR wr F' g ⟨m,t.l++(qr.take k).map Qe.ent⟩ (Value.slice a' (q.length+k) c') (q++qr.take k)∧Step F F' w wr) (fun wr=>(l.first:Int).toNat - (intCell wr g).toNat)
    case atStart=>exact ⟨t.upto,Nat.le_refl _,.inl rfl,HR10.out,HS10.out⟩
    case round =>
     obtain ⟨m,h1,h2,hr,hs⟩:=hrel
     have RR:=Lib.hid hr
     have SS:=Lib.hid hs
     have hm1:1≤m:=by have:=HTOK.out.one; omega
     have hm2:m≤4294967296:=by have:=HTOK.out.um; have:=HFI.out; omega
     have hmi:(m:Int)≤4294967296:=by omega
     have H12:=Lib.hid (And.intro h1 h2)
     have UP:Hid (∀ W,Below wr.heap.size wr W→Calls Tryz.prog 30 #[.pointer (some ⟨g,0,none⟩)] W fun e w'=>e=.returned (.int .i64 m)∧W=w'):=fun W hW=>upto_any (t:=⟨m,t.l++(qr.take k).map Qe.ent⟩) ⟨HFIT.out m hm1 hm2,_,_,RR.out.below hW⟩
     have SF2:Hid (∀ W,Below wr.heap.size wr W→Calls Tryz.prog 50 #[.pointer (some ⟨gl,0,none⟩),.int .i64 ((m:Int)*128)] W fun e w'=>e=.returned (.bool (decide (m < l.first)))∧W=w'):=fun W hW=>by
      have:=safe_any ((HBND.out _ SS.out).below hW) (m*128) (by omega) (decide (m < l.first)) (decide_eq_decide.2 (by omega))
      rw [show ((m*128:Nat):Int)=(m:Int)*128 by omega] at this
      exact this
     clear hr hs h1 h2
     by_cases hgo:m < l.first
     ·have hd:decide (m < l.first)=true:=decide_eq_true hgo
      rw [hd] at SF2
      obtain ⟨s,hs⟩:∃ s:Int,s=(m:Int) - 1:=⟨_,rfl⟩
      have c0:wr.cell? ⟨g,0,none⟩=some (.int .i64 s):=by rw [hs]; exact RR.out.cells.1
      have f0:=RR.out.head.frozen 0
      have hs0:0≤s:=by omega
      have hs1:s≤4294967296:=by omega
      obtain ⟨n1,n2⟩:=RR.out.moved (s+1) (m+1) (by omega)
      have HN1:=Lib.hid n1
      have HN2:=Lib.hid (SS.out.trans n2)
      have HGO:=Lib.hid hgo
      have hic:intCell wr g=s:=by unfold intCell; rw [c0]
      have hic2:intCell (wr.setCell ⟨g,0,none⟩ (.int .i64 (s+1))) g=s+1:=by unfold intCell; rw [HN1.out.cells.1]; simp only; omega
      have HM:Hid ((l.first:Int).toNat - (intCell (wr.setCell ⟨g,0,none⟩ (.int .i64 (s+1))) g).toNat < (l.first:Int).toNat - (intCell wr g).toNat):=by rw [Hid,hic,hic2]; omega
      have HS:=Lib.hid hs
      clear n1 n2 hgo hd hic hic2 hs
      go_wp2_with fail
      refine (UP.out _ (by exact Below.refl _ _)).mono ?_
      rintro e w2 ⟨rfl,rfl⟩
      go_wp2_with fail
      refine (SF2.out _ (by exact Below.refl _ _)).mono ?_
      rintro e w2 ⟨rfl,rfl⟩
      go_wp2_with fail
      refine ⟨⟨m+1,by have:=H12.out; omega,.inr HGO.out,HN1.out,HN2.out⟩,HM.out⟩
     ·have hd:decide (m < l.first)=false:=decide_eq_false hgo
      rw [hd] at SF2
      have HGO:=Lib.hid hgo
      clear hgo hd
      go_wp2_with fail
      refine (UP.out _ (by exact Below.refl _ _)).mono ?_
      rintro e w2 ⟨rfl,rfl⟩
      go_wp2_with fail
      refine (SF2.out _ (by exact Below.refl _ _)).mono ?_
      rintro e w2 ⟨rfl,rfl⟩
      go_wp2
      go_ret2
      have hmx:m=max t.upto l.first:=by have:=H12.out; have:=HGO.out; omega
      have hm1:1≤m:=by have:=HTOK.out.one; omega
      have hm2:m≤4294967296:=by have:=HTOK.out.um; have:=HFI.out; omega
      rw [HFIN.out.1]
      refine ⟨rfl,F',?_,SS.out⟩
      rw [← HFIN.out.2 m hmx]
      exact ⟨HFIT.out m hm1 hm2,_,_,RR.out⟩
end
end Go.Proofs.YthkbcfhjmnpggaaGreat

namespace Go.Proofs.YthkbcfhjmnpggaaGreat
open Go.RowKit
theorem cut_und:Tryz.prog.underlying 62=some (.slice (Tryz.prog.elem 62)):=by kernel_rfl
theorem cut_elem:Tryz.prog.elem 62=9:=by kernel_rfl
theorem cut_size:∀ w,(sizeOf 9).run Tryz.prog w=.ok 1 w:=fun w=>by kernel_rfl
theorem cut_clear (w:World) (q m n cap:Nat) (cur:Array Value) (hg:Blk w q 9 cur) (hn:0 < n) (hfit:m+n≤cur.size) :
 (Builtin.clear_ #[62] 0 #[.slice (some ⟨q,m,none⟩) n cap]).run Tryz.prog w=.ok (.tuple #[]) (w.setRow q (cur.toList.take m++List.replicate n (Value.string ⟨#[]⟩)++cur.toList.drop (m+n)).toArray):=by
 obtain ⟨k,rfl⟩:∃ k,n=k+1:=⟨n - 1,by omega⟩
 have hz:∀ w,(zeroValue 9).run Tryz.prog w=.ok (.string ⟨#[]⟩) w:=fun w=>by kernel_rfl
 have hzc:(Builtin.zeroCells (Value.string ⟨#[]⟩).cells (k+1)).toList=List.replicate (k+1) (Value.string ⟨#[]⟩):=by
  apply List.ext_getElem
  · simp [Builtin.zeroCells,Value.cells]
  ·intro i h1 h2
   simp [Builtin.zeroCells,Value.cells,Nat.mod_one]
 have hst:=run_storeCells_at Tryz.prog q m 9 (List.replicate (k+1) (Value.string ⟨#[]⟩)) 0 cur w hg (by simpa using hfit) (fun v hv=>by rw [List.eq_of_mem_replicate hv]; rfl)
 simp only [Nat.add_zero,List.length_replicate] at hst
 simp only [Builtin.clear_,List.getElem?_toArray,List.getElem?_cons_zero,Sem.run_bind,run_underlying Tryz.underlying62,Result.andThen_ok,hz]
 simp only [hzc,hst]
 rfl
theorem wpList_run2 {P:Program} {w w':World} {ops:Array Oper} {rest:List Oper} {o:Oper} {a:Act} {Q:Exit→Act→World→Prop} (hgd:o.guard=none) (s x:Operand) (t:TypeId)
 (ho:o.op=.call { callee:=.builtin .append,args:=#[s,x],argTypes:=#[t,t] }) {v y r:Value} (hs:a.eval s=v) (hx:a.eval x=y) (hr:(Builtin.append_ #[t,t] o.type #[v,y]).run P w=.ok r w')
 (h:wpList P ops Q rest (a.put o.dst r) w'):wpList P ops Q (o::rest) a w:=by
 refine wpList_plain hgd fun K hK=>?_
 unfold Oper.wp execOp
 simp only [ho,resolve,invoke,builtin,Sem.run_bind,Sem.run_pure,Result.andThen_ok,List.map_toArray,List.map_cons,List.map_nil,hs,hx,hr]
 exact hK _ _ h
set_option maxRecDepth 100000 in
set_option maxHeartbeats 4000000 in
theorem delete_any (w:World) (v:Value) (n j:Nat) (xs:List Value) (h:w.ownsRow 0 9 1 v n xs) (h1:∀ u ∈ xs,u.oneCell' = true) (hj:j≤n) (hn:n≤64) :
 Calls Tryz.prog 52 #[v,.int .i64 0,.int .i64 j] w fun e w'=>∃ v',e=.returned v'∧v'.ownBlock=v.ownBlock∧w'.ownsRow 0 9 1 v' (n - j) (xs.drop j)∧Only (fun b=>v.ownBlock=some b) w w':=by
 by_cases hj0:j=0
 ·subst hj0
  have H:=Lib.hid h
  obtain ⟨a,c,hv⟩:=own_slice h
  have hc:n≤c:=by
   rcases own_any h with ⟨e,h0,_⟩ | ⟨g,cap,e,h0,_⟩ <;> rw [hv] at e <;> cases e <;> omega
  subst hv
  have hs:=fun W=>run_slice_lhm (P:=Tryz.prog) W 62 a n c cut_und .i64 .i64 .i64 0 0 n (by omega) (by omega) (by omega) (by omega)
  simp only [cut_elem,cut_size,Result.andThen] at hs
  clear h h1
  go_enter Tryz.func52,Tryz.ntmps52
  go_wp2
  go_ret
  exact ⟨_,rfl,rfl,by have:=H.out; simpa using this,Only.refl _ _⟩
 ·rcases own_any h with ⟨e,h0,_⟩ | ⟨q,cap,rfl,hcn,hcm⟩
  · omega
  obtain ⟨hxl,⟨e,_⟩ | ⟨q',cap',cur,e,hB,hblk,g1,g2,g3,g4⟩⟩:=h
  · cases e
  cases e
  have hs:=fun W=>run_slice_lhm (P:=Tryz.prog) W 62 (some ⟨q,0,none⟩) n cap cut_und .i64 .i64 .i64 0 j n (by omega) (by omega) (by omega) (by omega)
  have hs1:=fun W=>run_slice_h (P:=Tryz.prog) W 62 (some ⟨q,0,none⟩) n cap cut_und .i64 0 (by omega) (by omega)
  have hs2:=fun W=>run_slice_l (P:=Tryz.prog) W 62 (some ⟨q,0,none⟩) n cap cut_und .i64 j (by omega) (by omega)
  simp only [cut_elem,cut_size,Result.andThen] at hs hs1 hs2
  have hji:¬ (0:Int)=(j:Int):=by omega
  have e0:∀ k:Nat,(⟨q,0,none⟩:Addr).add k=⟨q,k,none⟩:=fun k=>by unfold Addr.add; split <;> simp_all
  obtain ⟨i0,hi0,hz0,hz1,hz2⟩:=info_parts info_str
  -- what lies behind j, as a slice
  obtain ⟨ad,hy,hcells⟩:∃ ad:Addr,sliced (some ⟨q,0,none⟩) j n cap 1=.slice (some ad) (n - j) (cap - j)∧∀ k u,(xs.drop j)[k]? = some u→∀ W,Blk W q 9 cur→W.cell? (ad.add k)=some u:=by
   have hcu:∀ k u,(xs.drop j)[k]? = some u→cur[j+k]? = some u:=fun k u hk=>by
    rw [List.getElem?_drop] at hk
    have:=(List.getElem?_eq_some_iff.1 hk).1
    rw [← g4,List.getElem?_take] at hk
    split at hk
    · rwa [Array.getElem?_toList] at hk
    · cases hk
   by_cases hcj:cap=j
   ·refine ⟨⟨q,0,none⟩,by unfold sliced; rw [if_pos hcj],fun k u hk=>?_⟩
    have:=(List.getElem?_eq_some_iff.1 hk).1
    rw [List.length_drop,hxl] at this
    omega
   ·refine ⟨⟨q,j,none⟩,by unfold sliced; rw [if_neg hcj,Option.map_some,e0,Nat.mul_one],fun k u hk W hW=>?_⟩
    have e1:(⟨q,j,none⟩:Addr).add k=⟨q,j+k,none⟩:=by unfold Addr.add; split <;> simp_all
    rw [e1]
    exact (hW.cell _).trans (hcu k u hk)
  have hlen:(xs.drop j).length=(n - j)*i0.size:=by rw [List.length_drop,hxl,hz1]; omega
  have hcs:cur.size=cap:=by rw [g3]; omega
  have happ:∀ W,Blk W q 9 cur→(Builtin.append_ #[62,62] 62 #[.slice (some ⟨q,0,none⟩) 0 cap,.slice (some ad) (n - j) (cap - j)]).run Tryz.prog W=.ok (.slice (some ⟨q,0,none⟩) (n - j) cap) (W.setRow q (xs.drop j++cur.toList.drop (n - j)).toArray):=fun W hW=>by
   have:=run_append_room (P:=Tryz.prog) W 62 62 9 i0 Tryz.underlying62 hi0 q 0 cap cur hW ad (n - j) (cap - j) (xs.drop j) hlen (fun k u hk=>hcells k u hk W hW) (fun u hu=>h1 u (List.mem_of_mem_drop hu)) (by omega) (by rw [hlen,hz1]; omega)
   rw [hlen,hz1] at this
   simpa using this
  have hcur1:(xs.drop j++cur.toList.drop (n - j)).length=cap:=by simp; omega
  have hclr:∀ W,Blk W q 9 (xs.drop j++cur.toList.drop (n - j)).toArray→(Builtin.clear_ #[62] 0 #[.slice (some ⟨q,n - j,none⟩) j (cap - (n - j))]).run Tryz.prog W=.ok (.tuple #[]) (W.setRow q ((xs.drop j++cur.toList.drop (n - j)).take (n - j)++List.replicate j (Value.string ⟨#[]⟩)++(xs.drop j++cur.toList.drop (n - j)).drop (n - j+j)).toArray):=fun W hW=>by
   have:=cut_clear W q (n - j) j (cap - (n - j)) _ hW (by omega) (by rw [List.size_toArray,hcur1]; omega)
   simpa using this
  have hs3:=fun W=>run_slice_lh (P:=Tryz.prog) W 62 (some ⟨q,0,none⟩) (n - j) cap cut_und .i64 .i64 (n - j:Nat) n (by omega) (by omega) (by omega)
  simp only [cut_elem,cut_size,Result.andThen] at hs3
  have hy3:sliced (some ⟨q,0,none⟩) (((n - j:Nat):Int).toNat) ((n:Int).toNat) cap 1=.slice (some ⟨q,n - j,none⟩) j (cap - (n - j)):=by
   unfold sliced
   rw [Int.toNat_natCast,Int.toNat_natCast,if_neg (by omega),Option.map_some,e0,Nat.mul_one,show n - (n - j)=j by omega]
  simp only [hy3] at hs3
  simp only [Int.toNat_natCast,hy] at hs2
  have HBLK:Hid (Blk w q 9 cur):=hblk
  have HA:=Lib.hid happ
  have HC:=Lib.hid hclr
  have HN:Hid (j≤n∧n≤cap∧cap≤maxLen∧xs.length=n*1∧cur.size=cap*1∧List.take (n*1) cur.toList=xs):=⟨hj,g1,g2,hxl,g3,g4⟩
  clear happ hclr hblk hcells hy hy3 hlen hcs h1 hcur1 g3 g4 hxl
  generalize hnj:n - j=m at *
  have hm:m < n:=by omega
  have hwm:(m:Int)≤64:=by omega
  go_enter Tryz.func52,Tryz.ntmps52
  go_upto_region 5 with fail
  refine' wp_region_conf 6 (.is _::.is _::.is _::.is _::.is _::.is _::[]) (by kernel_rfl) (by kernel_rfl) (by kernel_rfl) (by kernel_rfl) rfl ?main
  case main =>
   iterate 6
    refine obs_is (fun w8 hE2 _=>?_) ?_
    ·go_wp2_with fail
     exact post_is (Below.refl _ _)
    simp only [Act.put,sA,sB,sC]
   refine obs_end fun w8 hE3 _=>?_
   have hB8:=(Below.refl w.heap.size w).drew.trans hE3
   have B8:=HBLK.out.keep hB8 HBLK.out.lt
   have a8:=HA.out w8 B8
   have L8:=B8.lt
   have R9:=B8.setRow (xs.drop j++cur.toList.drop m).toArray
   have c9:=HC.out _ R9
   have R10:=R9.setRow ((xs.drop j++cur.toList.drop m).take m++List.replicate j (Value.string ⟨#[]⟩)++(xs.drop j++cur.toList.drop m).drop (m+j)).toArray
   have on:Only (· = q) w (w8.setRow q (xs.drop j++cur.toList.drop m).toArray):=⟨hB8.os,hB8.tape,hB8.output,by simpa [World.setRow] using hB8.size,fun b hb hne=>(setRow_other w8 q b _ hne).trans (hB8.block b hb)⟩
   have on2:Only (· = q) w ((w8.setRow q (xs.drop j++cur.toList.drop m).toArray).setRow q ((xs.drop j++cur.toList.drop m).take m++List.replicate j (Value.string ⟨#[]⟩)++(xs.drop j++cur.toList.drop m).drop (m+j)).toArray):=⟨on.os,on.tape,on.output,by simpa [World.setRow] using on.size,fun b hb hne=>(setRow_other _ q b _ hne).trans (on.block b hb hne)⟩
   have HR:=Lib.hid R10
   have HO:=Lib.hid on2
   clear hE3 hB8 B8 R9 on on2 R10 HBLK HA HC
   generalize hW9:w8.setRow q (xs.drop j++cur.toList.drop m).toArray=w9 at *
   generalize hW10:w9.setRow q ((xs.drop j++cur.toList.drop m).take m++List.replicate j (Value.string ⟨#[]⟩)++(xs.drop j++cur.toList.drop m).drop (m+j)).toArray=w10 at *
   have hm0:((m:Nat):Int)≤n:=by omega
   clear hW9 hW10
   change wpList _ _ _ _ _ _
   go_wp2_with (refine wpList_run2 rfl (.tmp 22) (.tmp 25) 62 rfl rfl rfl a8 ?_)
   go_ret
   refine ⟨_,rfl,rfl,?_,?_⟩
   ·obtain ⟨g0,g1,g2,g3,g4,g5⟩:=HN.out
    have hl1:((xs.drop j++cur.toList.drop m).take m).length=m:=by simp; omega
    have hl2:(xs.drop j).length=m:=by simp; omega
    refine ⟨by rw [hl2]; omega,.inr ⟨q,cap,_,rfl,Nat.zero_le _,HR.out,by omega,g2,?_,?_⟩⟩
    ·simp only [List.size_toArray,List.length_append,hl1,List.length_replicate,List.length_drop,Array.length_toList]
     omega
    ·rw [Nat.mul_one]
     simp only [List.append_assoc]
     rw [List.take_append_of_le_length (by omega),List.take_of_length_le (by omega),List.take_append_of_le_length (by omega),List.take_of_length_le (by omega)]
   · exact ⟨HO.out.os,HO.out.tape,HO.out.output,HO.out.size,fun b hb hne=>HO.out.block b hb fun e=>hne (by rw [e]; rfl)⟩
theorem Wl.Ok.cutTo {l:Wl} (ok:l.Ok) {z:Nat} (h1:l.low≤z) (h2:z≤l.first) (h3:z≤2147483647):(l.cutTo z).Ok:=by
 have a1:=ok.l1
 have a2:=ok.fe
 have a4:=ok.len
 unfold Wl.end_ at a2
 have hend:(l.cutTo z).end_=l.end_:=by
  unfold Wl.end_ Wl.cutTo
  simp only [List.length_drop]
  omega
 refine ⟨ok.s8,ok.s64,ok.b0,by show 1≤z; omega,h3,h2,?_,?_,fun rs h=>ok.sec rs (List.mem_of_mem_drop h),ok.e1,ok.em⟩
 · rw [hend]; exact ok.fe
 ·show (l.secs.drop (z - l.low)).length≤l.size
  rw [List.length_drop]
  omega
def Wl.cutE (l:Wl) (x:Int):Nat:=if x < l.low∨(l.first:Int) < x then 2 else 0
def Wl.cutI (l:Wl) (x:Int):Wl:=if x < l.low∨(l.first:Int) < x then l else l.cutTo x.toNat
set_option maxRecDepth 100000 in
set_option maxHeartbeats 4000000 in
theorem cut_any {w:World} {F:Foot} {g gd:Nat} {l:Wl} (h:IsLog w F g gd l) (x:Int) (hs:l.first≤2147483647) :
 Calls Tryz.prog 17 #[.pointer (some ⟨g,0,none⟩),.int .i64 x] w fun e w'=>e=.returned (.int .i64 (l.cutE x))∧IsLog w' F g gd (l.cutI x)∧Step F F w w':=by
 have HL:=Lib.hid h
 obtain ⟨ok,vb,r⟩:=h
 obtain ⟨_,_,_,_,c4,c5,c6⟩:=r.cells
 have ok1:¬ False:=id
 have HOK:=Lib.hid ok
 have hlow:(l.low:Int)≤2147483647:=by have:=ok.lm; omega
 have hfst:(l.first:Int)≤2147483647:=by omega
 clear ok ok1
 by_cases h1:x < l.low
 ·have e1:l.cutE x=2:=if_pos (.inl h1)
  have e2:l.cutI x=l:=if_pos (.inl h1)
  rw [e1,e2]
  clear r c5 c6 e1 e2
  generalize l.low=lo at *
  go_enter Tryz.func17,Tryz.ntmps17
  go_wp2
  go_ret
  exact ⟨rfl,HL.out,Step.refl _ _⟩
 ·by_cases h2:(l.first:Int) < x
  ·have e1:l.cutE x=2:=if_pos (.inr h2)
   have e2:l.cutI x=l:=if_pos (.inr h2)
   rw [e1,e2]
   clear r c6 e1 e2
   generalize l.low=lo at *
   generalize l.first=fi at *
   go_enter Tryz.func17,Tryz.ntmps17
   go_wp2
   go_ret
   exact ⟨rfl,HL.out,Step.refl _ _⟩
  ·obtain ⟨z,rfl⟩:=Int.eq_ofNat_of_zero_le (show 0≤x by omega)
   have e1:l.cutE z=0:=if_neg (by omega)
   have e2:l.cutI z=l.cutTo z:=by unfold Wl.cutI; rw [if_neg (by omega),Int.toNat_natCast]
   rw [e1,e2]
   have OK2:=Lib.hid (HOK.out.cutTo (z:=z) (by omega) (by omega) (by omega))
   have hlen:l.secs.length≤64:=by have:=HOK.out.len; have:=HOK.out.s64; omega
   have hze:z - l.low≤l.secs.length:=by have:=HOK.out.fe; unfold Wl.end_ at this; omega
   obtain ⟨j,hj⟩:∃ j:Nat,z - l.low=j:=⟨_,rfl⟩
   have hwr:IntKind.i64.wrap ((z:Int) - (l.low:Int))=(j:Int):=by rw [IntWalk.i64_in _ (by omega)]; omega
   have DEL:Hid (∀ W,Below w.heap.size w W→Calls Tryz.prog 52 #[vb,.int .i64 0,.int .i64 j] W fun e w'=>∃ v',e=.returned v'∧v'.ownBlock=vb.ownBlock∧w'.ownsRow 0 9 1 v' (l.secs.length - j) ((strsV (l.secs.map bodyS)).drop j)∧Only (fun b=>vb.ownBlock=some b) W w'):=fun W hW =>
    delete_any W vb l.secs.length j _ (r.below hW).rows (fun u hu=>by obtain ⟨s,_,rfl⟩:=List.mem_map.1 hu; rfl) (by omega) hlen
   have HR:=Lib.hid r
   have HFIN:Hid (∀ w1 w2 v',Below w.heap.size w w1→v'.ownBlock=vb.ownBlock→w2.ownsRow 0 9 1 v' (l.secs.length - j) ((strsV (l.secs.map bodyS)).drop j)→Only (fun b=>vb.ownBlock=some b) w1 w2 →
    Blk w2 g 91 (logCells gd l vb)∧IsLog ((w2.setCell ⟨g,6,none⟩ v').setCell ⟨g,4,none⟩ (.int .i64 z)) F g gd (l.cutTo z)∧Step F F w ((w2.setCell ⟨g,6,none⟩ v').setCell ⟨g,4,none⟩ (.int .i64 z))):=fun w1 w2 v' hb he ho hon=>by
    have r1:=HR.out.below hb
    have hB:=hon.block g r1.head.lt r1.vg
    have B2:Blk w2 g 91 (logCells gd l vb):=hB.trans r1.head
    have hst:Step F F w w2:=⟨hon.os.trans hb.os,hon.tape.trans hb.tape,hon.output.trans hb.output,Nat.le_trans hb.size hon.size,fun b hlt hF=>(hon.block b (Nat.lt_of_lt_of_le hlt hb.size) fun e=>hF (HR.out.fv b e)).trans (hb.block b hlt),fun b hF=>.inl hF⟩
    have hne:∀ b,v'.ownBlock=some b→b≠g:=fun b hb2 e=>by subst e; exact HR.out.vg (by rw [← he]; exact hb2)
    refine ⟨B2,⟨OK2.out,v',?_,?_,HR.out.fg,fun b hb2=>HR.out.fv b (by rw [← he]; exact hb2),fun b hF=>?_⟩,(hst.set HR.out.fg _).set HR.out.fg _⟩
    ·have h6:=(B2.set 6 v').set 4 (.int .i64 z)
     exact h6
    ·have hl2:(l.cutTo z).secs.length=l.secs.length - j:=by unfold Wl.cutTo; simp only [List.length_drop,hj]
     have hl3:strsV ((l.cutTo z).secs.map bodyS)=(strsV (l.secs.map bodyS)).drop j:=by unfold Wl.cutTo strsV; simp only [hj,List.map_drop]
     rw [hl2,hl3]
     exact own_keep (own_keep ho fun b hb2=>heap_setCell_other w2 ⟨g,6,none⟩ b _ (hne b hb2)) fun b hb2=>heap_setCell_other _ ⟨g,4,none⟩ b _ (hne b hb2)
    ·have:=HR.out.lt b hF
     have h2:=hst.size
     simp only [World.setCell]
     simp
     omega
   have hfr:=r.head.frozen
   have C0:Hid (∀ W,Below w.heap.size w W→W.cell? ⟨g,6,none⟩=some vb∧W.cell? ⟨g,4,none⟩=some (.int .i64 l.low)):=fun W hW=>by
    obtain ⟨_,_,_,_,c4,_,c6⟩:=(HR.out.below hW).cells
    exact ⟨c6,c4⟩
   obtain ⟨va,vc,hvs⟩:=own_slice r.rows
   subst hvs
   obtain ⟨_,hz64⟩:True∧(z:Int)≤2147483647:=⟨trivial,by omega⟩
   have hz0:(0:Int)≤(z:Int) - (l.low:Int):=by omega
   clear r hj e1 e2 hze hfr hlen
   generalize l.low=lo at *
   generalize l.first=fi at *
   go_enter Tryz.func17,Tryz.ntmps17
   go_upto_region 5 with fail
   have HW:Hid ((z:Int) - (lo:Int)=(j:Int)):=by rw [IntWalk.i64_in _ (by omega)] at hwr; exact hwr
   have HZ:=Lib.hid (And.intro hlow (And.intro hz64 hz0))
   clear hwr h1 h2 hz64 hz0 hlow hfst
   refine' wp_region_free [0] 11 [.is (.pointer (some ⟨g,0,none⟩)),.is _,.is _,.is _,.is _,.is _,.is _,.is _,.is _,.is _,.is (.int .i64 j)] (by kernel_rfl) (by kernel_rfl) (by kernel_rfl) (by kernel_rfl) (by kernel_rfl) rfl ⟨rfl,trivial⟩ (fun _ _ _ _ _ h=>h) ?main
   case main =>
    iterate 10
     refine obs_is (fun w8 hE2 _=>?_) ?_
     ·obtain ⟨c6,c4⟩:=C0.out w8 ((Below.refl w.heap.size w).drew.trans hE2)
      clear hE2
      go_wp2_with fail
      exact post_is (Below.refl _ _)
     simp only [Act.put,sA,sB,sC]
    refine obs_is (d:=.int .i64 j) (fun w8 hE2 _=>?_) ?_
    ·obtain ⟨y1,y2,y3⟩:=HZ.out
     clear hE2
     go_wp2_with fail
     rw [HW.out]
     exact post_is (Below.refl _ _)
    simp only [Act.put,sA,sB,sC]
    refine obs_end fun w8 hE3 _=>?_
    have hB8:=(Below.refl w.heap.size w).drew.trans hE3
    have D8:=Lib.hid (DEL.out w8 hB8)
    have HB8:=Lib.hid hB8
    clear hE3 hB8 DEL C0 c4 c5 c6
    change wpList _ _ _ _ _ _
    go_wp2_with fail
    refine D8.out.mono ?_
    rintro e w9 ⟨v',rfl,he,ho,hon⟩
    obtain ⟨fa,fb,fc⟩:=HFIN.out w8 w9 v' HB8.out he ho hon
    have c6:=fa.cell 6
    have c4:=fa.cell 4
    have f6:=fa.frozen 6
    have f4:=fa.frozen 4
    simp [logCells] at c6 c4
    obtain ⟨a',c',hv'⟩:=own_slice ho
    have HFB:=Lib.hid fb
    have HFC:=Lib.hid fc
    clear ho hon he fa fb fc HFIN D8 HB8 HR HL HOK
    subst hv'
    go_wp2_with fail
    go_ret
    exact ⟨rfl,HFB.out,HFC.out⟩
end Go.Proofs.YthkbcfhjmnpggaaGreat
