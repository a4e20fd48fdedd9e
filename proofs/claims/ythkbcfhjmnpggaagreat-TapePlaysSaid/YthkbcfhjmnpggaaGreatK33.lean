/- Texts that belong together, joined: RinD, RefAll, TaK, TaP, TaQ, TaS. -/
import Derived.Test.YthkbcfhjmnpggaaGreatK30
import Derived.Test.YthkbcfhjmnpggaaGreatK31
import Derived.Test.YthkbcfhjmnpggaaGreatK32
import Derived.Test.YthkbcfhjmnpggaaGreatK14
import Derived.Test.YthkbcfhjmnpggaaGreatK28
import Derived.Test.YthkbcfhjmnpggaaGreatK18
import Derived.Test.YthkbcfhjmnpggaaGreatK21
import Derived.Test.YthkbcfhjmnpggaaGreatK03
namespace Go.Proofs.YthkbcfhjmnpggaaGreat
open Go.RowKit
theorem rinRead_any (s:ByteArray) (at_:Int) (w:World) (hs:s.size≤maxLen):Calls Tryz.prog 87 #[.string s,.int .i64 at_] w (Reads3N w (readR s at_)):=by
 by_cases h:at_ < 0∨(s.size:Int) < at_
 · exact refRead_range s at_ w h
 ·obtain ⟨k,rfl⟩:=Int.eq_ofNat_of_zero_le (show 0≤at_ by omega)
  have hk:k≤s.size:=by omega
  by_cases h1:(rin0 s k).small=1
  · exact refRead_1 s k w hs hk h1
  by_cases h2:(rin0 s k).small=2
  · exact refRead_2 s k w hs hk h2
  by_cases h3:(rin0 s k).small=3
  · exact refRead_3 s k w hs hk h3
  by_cases h4:(rin0 s k).small=4
  · exact refRead_4 s k w hs hk h4
  by_cases h6:(rin0 s k).small=6
  · exact refRead_6 s k w hs hk h6
  exact refRead_o _ s k w hs hk rfl h1 h2 h3 h4 h6
end Go.Proofs.YthkbcfhjmnpggaaGreat

namespace Go.Proofs.YthkbcfhjmnpggaaGreat
open Go.RowKit
def AllOutB (w:World) (o:Option (List Ent)) (e:Ending) (w':World):Prop :=
 ∃ v q,e=.returned (.tuple #[v,.bool o.isSome])∧q.map Qe.ent=o.getD []∧OwnE w' w.heap.size v q∧Below w.heap.size w w'∧FreshQ w.heap.size q
set_option maxRecDepth 100000 in
set_option maxHeartbeats 4000000 in
theorem refAll_any (s:ByteArray) (w:World) (hs:s.size≤16777216):Calls Tryz.prog 60 #[.string s] w (AllOutB w (allS s)):=by
 have hm:s.size≤maxLen:=by unfold maxLen; omega
 have HM:=Lib.hid hm
 clear hm
 go_enter Tryz.func60,Tryz.ntmps60
 go_wp2
 go_loopw [4,5] (fun v i wr=>∃ (q:List Qe) (k:Nat) (l:List UInt8),i=.int .i64 k∧k≤s.size∧q.length≤k∧OwnE wr w.heap.size v q∧Along s.data.toList (q.map Qe.ent) k l∧Below w.heap.size w wr∧FreshQ w.heap.size q) (fun _ i _=>s.size - (intOf i).toNat)
 case atStart=>exact ⟨[],0,_,rfl,Nat.zero_le _,Nat.le_refl _,OwnE.nil _ _,Along.start _,Below.refl _ _,FreshQ.nil _⟩
 case round =>
  obtain ⟨q,k,l,rfl,hk,hq,ho,hal,hB,hfr⟩:=hrel
  have HFR:=Lib.hid hfr
  clear hfr
  have HO:=Lib.hid ho
  have HAL:=Lib.hid hal
  have HB:=Lib.hid hB
  clear ho hal hB
  by_cases hlt:k < s.size
  ·cases hp:recP (s.data.toList.drop k) with
   | none =>
     have hr:readR s k=(.nil,0,3):=by unfold readR; rw [if_neg (by omega),Int.toNat_natCast,hp]; rfl
     have HR:=Lib.hid (rinRead_any s k wr HM.out)
     rw [hr] at HR
     have hno:allS s=none:=HAL.out.stop (by rw [HAL.out.2.1]; intro hc; have:=congrArg List.length hc; simp at this; omega) (by rw [HAL.out.2.1]; exact hp)
     have HNO:=Lib.hid hno
     clear hp hr hno
     go_wp2_with fail
     refine HR.out.mono ?_
     rintro e w1 ⟨vt,vp,rfl,hl,nt,np,hb⟩
     have one:=hl.one
     have hn:=Blk.new w1 46 (recCells .nil (.slice none 0 0) (.slice none 0 0))
     have LB:=Lib.hid (below2 (below2 HB.out hb) (below_setRow ((Below.refl _ _).alloc (Nat.le_refl _) (.cells (recCells .nil (.slice none 0 0) (.slice none 0 0)) 46)) (Nat.le_refl _) (recCells .nil vt vp)))
     clear hb hl nt np
     go_wp2_with (refine wpList_store_row rfl 46 _ _ rfl w1.heap.size _ rfl rfl 46 _ hn (by kernel_rfl) rfl one ?_)
     go_ret2
     refine ⟨.slice none 0 0,[],?_,?_,OwnE.nil _ _,LB.out,FreshQ.nil _⟩
     · rw [HNO.out]; rfl
     · rw [HNO.out]; rfl
   | some x =>
     obtain ⟨r,l'⟩:=x
     have hr:readR s k=(r,(s.size:Int) - l'.length,0):=by unfold readR; rw [if_neg (by omega),Int.toNat_natCast,hp]; rfl
     have hls:=recP_less hp
     rw [List.length_drop,size_bytes] at hls
     obtain ⟨m,hmm⟩:∃ m:Nat,m=s.size - l'.length:=⟨_,rfl⟩
     rw [show (s.size:Int) - l'.length=(m:Int) by omega] at hr
     have HR:=Lib.hid (rinRead_any s k wr HM.out)
     rw [hr] at HR
     have HST:=Lib.hid (HAL.out.step (by rw [HAL.out.2.1]; exact hp))
     rw [show s.data.toList.length - l'.length=m by rw [hmm,size_bytes]] at HST
     have hkm:k+1≤m:=by omega
     have hms:m≤s.size:=by omega
     clear hp hr hls hmm HAL
     go_wp2_with fail
     refine HR.out.mono ?_
     rintro e w1 ⟨vt,vp,rfl,hl,nt,np,hb⟩
     have one:=hl.one
     have hn:=Blk.new w1 46 (recCells .nil (.slice none 0 0) (.slice none 0 0))
     clear HR
     have N3:=hn.setRow (recCells r vt vp)
     have hb3:Below w1.heap.size w1 ((w1.alloc (.cells (recCells .nil (.slice none 0 0) (.slice none 0 0)) 46)).setRow w1.heap.size (recCells r vt vp)):=below_setRow ((Below.refl _ _).alloc (Nat.le_refl _) _) (Nat.le_refl _) _
     have HO3:=Lib.hid ((HO.out.keep hb).keep hb3)
     have HL3:=Lib.hid (hl.keep hb3)
     have HF2:Hid (FreshQ w.heap.size (q++[⟨k,r,vt,vp⟩])):=HFR.out.snoc (fun b hb=>Nat.le_trans HB.out.size (nt b hb)) (fun b hb=>Nat.le_trans HB.out.size (np b hb))
     have HAP:=Lib.hid (New.apart HO.out (at_:=k) (r:=r) nt np)
     have HB3:=Lib.hid (below2 (below2 HB.out hb) hb3)
     go_upto_region 7 with (refine wpList_store_row rfl 46 _ _ rfl w1.heap.size _ rfl rfl 46 _ hn (by kernel_rfl) rfl one ?_)
     clear hn hb3 hl nt np hb HO HB
     change Code.wp _ _ _ _ ((w1.alloc (.cells (recCells .nil (.slice none 0 0) (.slice none 0 0)) 46)).setRow w1.heap.size (recCells r vt vp))
     generalize ((w1.alloc (.cells (recCells .nil (.slice none 0 0) (.slice none 0 0)) 46)).setRow w1.heap.size (recCells r vt vp))=w3 at *
     generalize w1.heap.size=x at *
     obtain ⟨i0,hi0,hz0,hz1,hz2⟩:=info_parts info_entry
     have HI:=Lib.hid (And.intro hi0 (And.intro hz0 (And.intro hz1 hz2)))
     clear hi0 hz0 hz1 hz2
     obtain ⟨ta,tc,rfl⟩:=HL3.out.t.form
     obtain ⟨pa,pc,rfl⟩:=HL3.out.p.form
     unfold recCells at N3
     obtain ⟨hi0,hz0,hz1,hz2⟩:=id HI.out
     have B4:Below w3.heap.size w3 (w3.alloc (.cells (Qe.cells ⟨k,r,.slice ta r.txns.length tc,.slice pa r.pages.length pc⟩).toArray 108)):=(Below.refl _ _).alloc (Nat.le_refl _) _
     have HO4:=Lib.hid (HO3.out.keep B4)
     have HL4:=Lib.hid (HL3.out.keep B4)
     have HB4:=Lib.hid (below2 HB3.out B4)
     have hq4:=HB4.out.size
     clear B4 HO3 HL3 HB3
     go_wp2_with (first
      | (refine wpList_load_row rfl 46 _ rfl x rfl 46 _ (0,0) _ N3 Tryz.underlying46 rfl (by kernel_rfl) ?_)
      | (at_builtin; refine wpList_append_lies _ rfl (.tmp 22) (.tmp 26) 40 rfl w.heap.size 108 i0 entryZero 12 144 Tryz.underlying40 hi0 hz0 hz1 hz2 rfl (by decide) _ _ _ rfl HO4.out.own ⟨w3.heap.size,0,none⟩ 1 1 (Qe.cells ⟨k,r,.slice ta r.txns.length tc,.slice pa r.pages.length pc⟩) rfl rfl (World.news_of_block (heap_alloc_new w3 _)) (by simp [Qe.cells,recCells,Value.oneCell']) (by omega) (by simp only [maxLen]; omega) (by omega) hq4 _ rfl ?_))
     intro g cap w5 hown hgrow hat hlt5
     have HO5:=Lib.hid (HO4.out.pushed HL4.out HAP.out hown hgrow (by rw [World.size_alloc]; exact hat))
     have HB5:=Lib.hid (show Below w.heap.size w w5 from HB4.out.trans ⟨hgrow.os,hgrow.tape,hgrow.output,hgrow.size,fun b hb=>hgrow.block b (Nat.lt_of_lt_of_le hb hq4) fun e=>by have:=(HO4.out.own.lt b e.symm).1; omega⟩)
     clear hown hgrow hat HO4 HL4 HB4
     go_wp2
     go_roundw
     case rel=>exact ⟨q++[⟨k,r,.slice ta r.txns.length tc,.slice pa r.pages.length pc⟩],m,l',rfl,hms,by simp; omega,by simpa using HO5.out,by simpa [Qe.ent] using HST.out,HB5.out,HF2.out⟩
     case measure=>simp [intOf]; omega
  ·obtain rfl:k=s.size:=by omega
   have hdn:allS s=some (q.map Qe.ent):=HAL.out.done (by rw [HAL.out.2.1,← size_bytes,List.drop_length])
   have HDN:=Lib.hid hdn
   clear hdn
   go_wp2
   go_ret2
   exact ⟨_,q,by rw [HDN.out]; rfl,by rw [HDN.out]; rfl,HO.out,HB.out,HFR.out⟩
end Go.Proofs.YthkbcfhjmnpggaaGreat

namespace Go.Proofs.YthkbcfhjmnpggaaGreat
open Go.RowKit
theorem Wl.B_at {l:Wl} (i:Nat) (hi:i < l.B.length):l.B[i]=bodyS (l.secs.getD i []):=by
 have h:l.B[i]? = some (bodyS (l.secs.getD i [])):=by
  by_cases hf:l.first=l.end_
  ·rw [Wl.B_idle hf] at hi ⊢
   by_cases hl:i < l.secs.length
   ·rw [List.getElem?_append_left (by simpa using hl),List.getElem?_map,List.getElem?_eq_getElem hl,List.getD_eq_getElem?_getD,List.getElem?_eq_getElem hl]
    rfl
   ·have e:i=l.secs.length:=by simp at hi; omega
    subst e
    rw [List.getElem?_append_right (by simp),List.length_map,Nat.sub_self,List.getD_eq_getElem?_getD,List.getElem?_eq_none (Nat.le_refl _)]
    rfl
  ·rw [Wl.B_open hf] at hi ⊢
   have hl:i < l.secs.length:=by simpa using hi
   rw [List.getElem?_map,List.getElem?_eq_getElem hl,List.getD_eq_getElem?_getD,List.getElem?_eq_getElem hl]
   rfl
 rw [List.getElem?_eq_getElem hi] at h
 exact Option.some.inj h
theorem Wl.sec_may {l:Wl} (ok:l.Ok) (i:Nat):(∀ r ∈ l.secs.getD i [],May r)∧(body (l.secs.getD i [])).length≤112:=by
 by_cases hl:i < l.secs.length
 ·rw [List.getD_eq_getElem?_getD,List.getElem?_eq_getElem hl]
  exact (ok.sec _ (List.getElem_mem hl)).2
 ·rw [List.getD_eq_getElem?_getD,List.getElem?_eq_none (by omega)]
  exact ⟨fun r h=>by simp at h,by simp [body]⟩
theorem Wl.rest_next {l:Wl} (from_:Int) (i:Nat):l.rest from_ (l.low+i)=((entsOf 0 (l.secs.getD i [])).map (fun x=>(((l.low+i:Nat):Int)*128+x.1,x.2))).filter (fun x=>decide (from_≤x.1))++l.rest from_ (l.low+(i+1)):=by
 by_cases hl:i < l.secs.length
 ·have h:=Wl.rest_step l from_ (l.low+i) (by omega) (by unfold Wl.end_; omega)
  rw [show l.low+i+1=l.low+(i+1) by omega] at h
  rw [h]
  congr 2
  unfold Wl.entries
  rw [if_pos (by unfold Wl.end_; omega),Int.toNat_natCast,Nat.add_sub_cancel_left]
  have e:=entsOf_shift 0 (((l.low+i:Nat):Int)*128) (l.secs.getD i [])
  rw [Int.zero_add] at e
  rw [← e]
  refine List.map_congr_left fun x _=>?_
  rw [Int.add_comm]
 ·rw [List.getD_eq_getElem?_getD,List.getElem?_eq_none (by omega),Wl.rest_end l from_ _ (by unfold Wl.end_; omega),Wl.rest_end l from_ _ (by unfold Wl.end_; omega)]
  simp [entsOf]
theorem scan_snoc (es:List Ent) (x:Ent) (d f:Int):((es++[x]).map (fun x=>(d+x.1,x.2))).filter (fun x=>decide (f≤x.1))=(es.map (fun x=>(d+x.1,x.2))).filter (fun x=>decide (f≤x.1))++if f≤d+x.1 then [(d+x.1,x.2)] else []:=by
 rw [List.map_append,List.filter_append]
 congr 1
 by_cases h:f≤d+x.1
 · rw [if_pos h,List.map_cons,List.filter_cons_of_pos (by simpa using h)]; rfl
 · rw [if_neg h,List.map_cons,List.filter_cons_of_neg (by simpa using h)]; rfl
set_option maxRecDepth 100000 in
set_option maxHeartbeats 8000000 in
theorem rlScan_any {w:World} {F:Foot} {g gd:Nat} {l:Wl} (h:IsRL w F g gd l) (from_:Int) :
 Calls Tryz.prog 51 #[.pointer (some ⟨g,0,none⟩),.int .i64 from_] w (EntsOut w (l.scan from_)):=by
 obtain ⟨ok,vb,r⟩:=h
 have hB:=Wl.B_len ok
 obtain ⟨g2,cap,rfl,hcap,hcm⟩:=own_form r.rows (by omega)
 have HLOW:Hid (l.rest from_ l.low=l.scan from_):=Wl.rest_low l from_
 have HOK:=Lib.hid ok
 have hlm:(l.low:Int)≤2147483647:=by have:=ok.lm; omega
 have hl0:(0:Int)≤l.low:=by omega
 have hBi:(l.B.length:Int)≤65:=by omega
 have C:Hid (∀ W,Below w.heap.size w W→W.cell? ⟨g,3,none⟩=some (.int .i64 l.low)∧W.cell? ⟨g,6,none⟩=some (.slice (some ⟨g2,0,none⟩) l.B.length cap)∧∀ i,i < l.B.length→W.cell? ⟨g2,i,none⟩=some (.string (bodyS (l.secs.getD i [])))):=fun W hW=>by
  have r:=r.below hW
  obtain ⟨_,_,_,c3,_,_,c6⟩:=r.cells
  refine ⟨c3,c6,fun i hi=>?_⟩
  have cy:=r.rows.cellAt i (by omega)
  rw [cy,← Wl.B_at i hi]
  unfold strsV
  rw [List.getElem?_map,List.getElem?_eq_getElem hi]
  rfl
 have HBN:Hid (l.secs.length≤l.B.length):=by
  by_cases hf:l.first=l.end_
  · rw [Hid,Wl.B_idle hf]; simp
  · rw [Hid,Wl.B_open hf]; simp
 clear r ok hB
 generalize hbn:l.B.length=bn at *
 clear hbn
 go_enter Tryz.func51,Tryz.ntmps51
 go_wp2_with fail
 go_loopw [5,6,7,8,9,10] (fun v vi _ _ _ _ wr=>∃ (i:Nat) (q:List Qe),vi=.int .i64 i∧i≤bn∧OwnE wr w.heap.size v q∧q.map Qe.ent++l.rest from_ (l.low+i)=l.scan from_∧q.length≤112*i∧Below w.heap.size w wr∧FreshQ w.heap.size q) (fun _ vi _ _ _ _ _=>bn - (intOf vi).toNat)
 case atStart=>exact ⟨0,[],rfl,Nat.zero_le _,OwnE.nil _ _,HLOW.out,Nat.zero_le _,Below.refl _ _,FreshQ.nil _⟩
 case round =>
  obtain ⟨i,q,rfl,hi,ho,hq,hql,hB,hfq⟩:=hrel
  have HO:=Lib.hid ho
  have HQ:=Lib.hid hq
  have HB:=Lib.hid hB
  have HFQ:=Lib.hid hfq
  clear ho hq hB hfq
  by_cases hlt:i < bn
  ·obtain ⟨c3,c6,cb⟩:=C.out wr HB.out
   have cbi:=cb i hlt
   have hii:(i:Int) < bn:=by omega
   have hsec:=Wl.sec_may HOK.out i
   have HNX:=Lib.hid (Wl.rest_next (l:=l) from_ i)
   have hall:=allS_body hsec.1
   have hcnt:=body_count _ hsec.1
   have hel:=entsOf_len 0 (l.secs.getD i [])
   have hsz:(bodyS (l.secs.getD i [])).size≤16777216:=by rw [bodyS_size]; omega
   have ALL:=Lib.hid (fun W=>refAll_any (bodyS (l.secs.getD i [])) W hsz)
   rw [show allS (bodyS (l.secs.getD i []))=some (entsOf 0 (l.secs.getD i [])) from hall] at ALL
   have HENT:Hid (∀ x ∈ entsOf 0 (l.secs.getD i []),0≤x.1∧x.1≤112):=fun x hx=>by
    have h1:=entsOf_ge 0 _ hsec.1 x hx
    have h2:=hsec.2
    unfold body at h2
    omega
   have HEL:Hid ((entsOf 0 (l.secs.getD i [])).length≤112):=by rw [Hid,hel]; omega
   clear cb hall hcnt hel hsz hsec
   generalize bodyS (l.secs.getD i [])=bs at *
   generalize entsOf 0 (l.secs.getD i [])=es at *
   go_wp2_with fail
   refine (ALL.out _).mono ?_
   rintro e w2 ⟨ve,qe,rfl,hqe,hoe,hbe,hfe⟩
   have HO2:=Lib.hid (HO.out.keep hbe)
   have HB2:=Lib.hid (below2 HB.out hbe)
   have hsz:w.heap.size≤wr.heap.size:=HB.out.size
   have hap1:∀ x ∈ qe,Apart u5 x:=hfe.apart fun b hb=>(HO.out.own.lt b hb).2
   have hap2:∀ b,(u5:Value).ownBlock=some b→ve.ownBlock≠some b:=fun b hb e=>by have h1:=(HO.out.own.lt b hb).2; have h2:=(hoe.own.lt b e).1; exact absurd h1 (Nat.not_lt.2 h2)
   have HAP:=Lib.hid (And.intro hap1 hap2)
   have HFE:=Lib.hid (hfe.base hsz)
   have HOE:=Lib.hid (hoe.base hsz)
   have hqe2:qe.map Qe.ent=es:=hqe
   have hqel:qe.length≤112:=by
    have e:=congrArg List.length hqe2
    rw [List.length_map] at e
    have:=HEL.out
    omega
   obtain ⟨vea,vec,hve⟩:=own_slice hoe.own
   subst hve
   have hqi:(qe.length:Int)≤112:=by omega
   have HES:=Lib.hid hqe2
   obtain ⟨i0,hi0,hz0,hz1,hz2⟩:=info_parts info_entry
   have HI:=Lib.hid (And.intro hi0 (And.intro hz0 (And.intro hz1 hz2)))
   clear hi0 hz0 hz1 hz2 hap1 hap2 hoe hqe hqe2 hbe hfe HO HB ALL HEL cbi c3 c6
   go_wp2_with fail
   go_loopw [5,9,10] (fun v vj _ w3=>∃ (j:Nat) (q2:List Qe),vj=.int .i64 j∧j≤qe.length∧OwnE w3 w.heap.size v q2∧OwnE w3 w.heap.size (.slice vea qe.length vec) qe ∧
    q2.map Qe.ent=q.map Qe.ent++(((qe.take j).map Qe.ent).map (fun x=>(((l.low+i:Nat):Int)*128+x.1,x.2))).filter (fun x=>decide (from_≤x.1))∧q2.length≤112*i+j∧Below w.heap.size w w3 ∧
    (∀ x ∈ qe,Apart v x)∧(∀ b,v.ownBlock=some b→(Value.slice vea qe.length vec).ownBlock≠some b)∧FreshQ w.heap.size q2) (fun _ vj _ _=>qe.length - (intOf vj).toNat)
   case atStart=>exact ⟨0,q,rfl,Nat.zero_le _,HO2.out,HOE.out,by simp,by omega,HB2.out,HAP.out.1,HAP.out.2,HFQ.out⟩
   case round =>
    obtain ⟨j,q2,rfl,hj,ho2,hoe,hq2,hql2,hB3,hp1,hp2,hfq2⟩:=hrel
    clear HO2 HB2 HOE HAP HFQ
    by_cases hjl:j < qe.length
    ·obtain ⟨ge,ce,hve,_,_⟩:=own_form hoe.own (by omega)
     cases hve
     have hmem:=List.getElem_mem hjl
     have hlx:=hoe.lists _ hmem
     have hxa:=hp1 _ hmem
     have hfx:=HFE.out _ hmem
     have htk:(qe.take (j+1)).map Qe.ent=(qe.take j).map Qe.ent++[qe[j].ent]:=by rw [List.take_succ_eq_append_getElem hjl,List.map_append]; rfl
     have hcell:∀ k u,qe[j].cells[k]? = some u→wr.cell? ⟨ge,j*12+k,none⟩=some u:=fun k u hu=>by
      have hi:k < 12:=by have:=(List.getElem?_eq_some_iff.1 hu).1; rwa [Qe.cells_len] at this
      rw [hoe.own.cellAt (j*12+k) (by omega),entsV_at qe j hjl k hi,hu]
     have HTK:=Lib.hid htk
     have HO:=Lib.hid ho2
     have HOE:=Lib.hid hoe
     have HQ2:=Lib.hid hq2
     have HB:=Lib.hid hB3
     have HP:=Lib.hid (And.intro hp1 hp2)
     have HFQ2:=Lib.hid hfq2
     have HXA:=Lib.hid hxa
     have HFX:=Lib.hid hfx
     have HLX:=Lib.hid hlx
     have hin:qe[j].ent ∈ es:=by rw [← HES.out]; exact List.mem_map.2 ⟨qe[j],hmem,rfl⟩
     have hbnd:0≤qe[j].at_∧qe[j].at_≤112:=HENT.out _ hin
     obtain ⟨c3,c6,_⟩:=C.out wr hB3
     clear htk ho2 hoe hq2 hB3 hp1 hp2 hfq2 hmem hin
     have hji:(j:Int) < qe.length:=by omega
     generalize qe[j]=x at *
     obtain ⟨at_,r,vt,vp⟩:=x
     obtain ⟨ta,tc,hvt⟩:=hlx.t.form
     obtain ⟨pa,pc,hvp⟩:=hlx.p.form
     simp only at hvt hvp hbnd
     subst hvt hvp
     obtain ⟨hb0,hb1⟩:=hbnd
     have c0:wr.cell? ⟨ge,j*12,none⟩=some (.int .i64 at_):=hcell 0 _ rfl
     have HC:=Lib.hid (show ∀ k u,(recCells r (.slice ta r.txns.length tc) (.slice pa r.pages.length pc)).toList[k]? = some u→wr.cell? ⟨ge,j*12+1+k,none⟩=some u from fun k u hu=>by
      rw [Nat.add_assoc,Nat.add_comm 1 k,← Nat.add_assoc]
      exact hcell (k+1) u (by rw [← hu]; rfl))
     have hge:ge < wr.heap.size:=(HOE.out.own.lt ge rfl).2
     clear hlx hxa hfx hcell
     obtain ⟨A,hA⟩:∃ A:Int,A=((l.low:Int)+(i:Int))*128+at_:=⟨_,rfl⟩
     have hA2:A=((l.low+i:Nat):Int)*128+at_:=by rw [hA,Int.natCast_add]
     go_wp2_with fail
     go_quiet (fail)
     rw [← hA]
     have hb3:=drewN_below wr nq
     have HO3:=Lib.hid (HO.out.keep hb3)
     have HOE3:=Lib.hid (HOE.out.keep hb3)
     have HLX3:=Lib.hid (HLX.out.keep hb3)
     have HB3:=Lib.hid (below2 HB.out hb3)
     have hrange:(wr.drewN nq).rangeAt ge (j*12+1) (recCells r (.slice ta r.txns.length tc) (.slice pa r.pages.length pc)).toList:=fun k u hu=>(hb3.cell (p:=⟨ge,j*12+1+k,none⟩) hge).trans (HC.out k u hu)
     clear hb3 HO HOE HLX HB HC c0 c3 c6 hge
     generalize wr.drewN nq=w3 at *
     by_cases hfa:from_≤A
     ·have hfil:(q2.map Qe.ent)++[(A,r)]=q.map Qe.ent++(((qe.take (j+1)).map Qe.ent).map (fun x=>(((l.low+i:Nat):Int)*128+x.1,x.2))).filter (fun x=>decide (from_≤x.1)):=by
       have hfb:from_≤((l.low+i:Nat):Int)*128+at_:=by rw [← hA2]; exact hfa
       rw [HTK.out,HQ2.out,scan_snoc,if_pos (show from_≤((l.low+i:Nat):Int)*128+(Qe.ent ⟨at_,r,.slice ta r.txns.length tc,.slice pa r.pages.length pc⟩).1 from hfb),hA2,List.append_assoc]
       rfl
      have HFIL:=Lib.hid hfil
      obtain ⟨hi0,hz0,hz1,hz2⟩:=id HI.out
      have B4:Below w3.heap.size w3 (w3.alloc (.cells (Qe.cells ⟨A,r,.slice ta r.txns.length tc,.slice pa r.pages.length pc⟩).toArray 108)):=(Below.refl _ _).alloc (Nat.le_refl _) _
      have HO4:=Lib.hid (HO3.out.keep B4)
      have HOE4:=Lib.hid (HOE3.out.keep B4)
      have HLX4:=Lib.hid (HLX3.out.keep B4)
      have HB4:=Lib.hid (below2 HB3.out B4)
      have hq4:=HB4.out.size
      have hq2b:q2.length≤8000:=by omega
      have HRG:Hid (w3.rangeAt ge (j*12+1) [.int .i64 r.kind,.int .i64 r.txn,.int .i64 r.page,.int .i64 r.off,.int .i64 r.prev,.int .i64 r.next,.int .i64 r.beg,.string r.before,.string r.after,.slice ta r.txns.length tc,.slice pa r.pages.length pc]):=hrange
      clear hfil B4 HO3 HOE3 HLX3 HB3 HQ2 HTK hA hA2 hrange
      go_upto_region 11 with fail
      go_wp2_with (first
       | (refine wpList_load_mid rfl 46 _ rfl ge (j*12+1) rfl [.int .i64 r.kind,.int .i64 r.txn,.int .i64 r.page,.int .i64 r.off,.int .i64 r.prev,.int .i64 r.next,.int .i64 r.beg,.string r.before,.string r.after,.slice ta r.txns.length tc,.slice pa r.pages.length pc] _ HRG.out Tryz.underlying46 rfl (by kernel_rfl) ?_)
       | (at_builtin; refine wpList_append_lies _ rfl (.tmp 53) (.tmp 61) 40 rfl w.heap.size 108 i0 entryZero 12 144 Tryz.underlying40 hi0 hz0 hz1 hz2 rfl (by decide) _ _ _ rfl HO4.out.own ⟨w3.heap.size,0,none⟩ 1 1 (Qe.cells ⟨A,r,.slice ta r.txns.length tc,.slice pa r.pages.length pc⟩) rfl rfl (World.news_of_block (heap_alloc_new w3 _)) (by simp [Qe.cells,recCells,Value.oneCell']) (by omega) (by simp only [maxLen]; omega) (by omega) hq4 _ rfl ?_))
      intro gg cap5 w5 hown hgrow hat hlt5
      have HO5:=Lib.hid (HO4.out.pushed HLX4.out (x:=⟨A,r,.slice ta r.txns.length tc,.slice pa r.pages.length pc⟩) HXA.out hown hgrow (by rw [World.size_alloc]; exact hat))
      have HOE5:=Lib.hid (HOE4.out.grown hgrow HP.out.2 HP.out.1)
      have HB5:=Lib.hid (show Below w.heap.size w w5 from HB4.out.trans ⟨hgrow.os,hgrow.tape,hgrow.output,hgrow.size,fun b hb=>hgrow.block b (Nat.lt_of_lt_of_le hb hq4) fun e=>by have:=(HO4.out.own.lt b e.symm).1; omega⟩)
      have HP5:Hid ((∀ x ∈ qe,Apart (.slice (some ⟨gg,0,none⟩) (q2.length+1) cap5) x)∧∀ b,(Value.slice (some ⟨gg,0,none⟩) (q2.length+1) cap5).ownBlock=some b→(Value.slice (some ⟨ge,0,none⟩) qe.length vec).ownBlock≠some b):=by
       refine ⟨fun x hx b hb=>?_,fun b hb e=>?_⟩
       ·simp only [Value.ownBlock,Option.some.injEq] at hb
        subst hb
        rcases hat with hat | hat
        · exact HP.out.1 x hx _ hat
        ·have hl:=HOE4.out.lists x hx
         exact ⟨fun hr e=>by have:=hl.t.blt hr _ e; rw [World.size_alloc] at this; omega,fun hr e=>by have:=hl.p.blt hr _ e; rw [World.size_alloc] at this; omega⟩
       ·simp only [Value.ownBlock,Option.some.injEq] at hb e
        subst hb
        rcases hat with hat | hat
        · exact HP.out.2 _ hat (by simp [Value.ownBlock,e])
        ·have:=(HOE4.out.own.lt ge rfl).2
         rw [World.size_alloc] at this
         omega
      have HFQ5:Hid (FreshQ w.heap.size (q2++[⟨A,r,.slice ta r.txns.length tc,.slice pa r.pages.length pc⟩])):=fun z hz=>by
       rcases List.mem_append.1 hz with hz | hz
       · exact HFQ2.out z hz
       · simp at hz; subst hz; exact HFX.out
      clear hown hgrow hat HO4 HOE4 HLX4 HB4
      go_wp2
      go_roundw
      case rel=>exact ⟨j+1,q2++[⟨A,r,.slice ta r.txns.length tc,.slice pa r.pages.length pc⟩],by go_num,by omega,by simpa using HO5.out,HOE5.out,by rw [List.map_append]; exact HFIL.out,by simp; omega,HB5.out,HP5.out.1,HP5.out.2,HFQ5.out⟩
      case measure=>simp [intOf]; omega
     ·have hfil:q2.map Qe.ent=q.map Qe.ent++(((qe.take (j+1)).map Qe.ent).map (fun x=>(((l.low+i:Nat):Int)*128+x.1,x.2))).filter (fun x=>decide (from_≤x.1)):=by
       have hfb:¬ from_≤((l.low+i:Nat):Int)*128+at_:=by rw [← hA2]; exact hfa
       rw [HTK.out,HQ2.out,scan_snoc,if_neg (show ¬ from_≤((l.low+i:Nat):Int)*128+(Qe.ent ⟨at_,r,.slice ta r.txns.length tc,.slice pa r.pages.length pc⟩).1 from hfb),List.append_nil]
      have HFIL:=Lib.hid hfil
      clear hfil HQ2 HTK hrange hA hA2
      go_wp2
      go_roundw
      case rel=>exact ⟨j+1,q2,by go_num,by omega,HO3.out,HOE3.out,HFIL.out,by omega,HB3.out,HP.out.1,HP.out.2,HFQ2.out⟩
      case measure=>simp [intOf]; omega
    ·obtain rfl:j=qe.length:=by omega
     have hall:q2.map Qe.ent++l.rest from_ (l.low+(i+1))=l.scan from_:=by
      rw [← HQ.out,HNX.out,← HES.out,hq2,List.take_length,List.append_assoc]
     have HALL:=Lib.hid hall
     have HO:=Lib.hid ho2
     have HB:=Lib.hid hB3
     have HFQ2:=Lib.hid hfq2
     clear hall ho2 hoe hq2 hB3 hp1 hp2 hfq2
     go_wp2
     go_roundw
     case rel=>exact ⟨i+1,q2,by go_num,by omega,HO.out,HALL.out,by omega,HB.out,HFQ2.out⟩
     case measure=>simp [intOf]; omega
  ·obtain rfl:i=bn:=by omega
   have hdone:q.map Qe.ent=l.scan from_:=by rw [← HQ.out,Wl.rest_end l from_ _ (by have:=HBN.out; unfold Wl.end_; omega),List.append_nil]
   have HD:=Lib.hid hdone
   obtain ⟨c3,c6,_⟩:=C.out wr HB.out
   clear hdone HQ
   go_wp2
   go_ret
   exact ⟨_,q,rfl,HD.out,HO.out,HB.out,HFQ.out⟩
end Go.Proofs.YthkbcfhjmnpggaaGreat

namespace Go.Proofs.YthkbcfhjmnpggaaGreat
open Go.RowKit
def rtCells (t:Tp) (v:Value):Array Value:=#[.int .i64 (t.upto:Int),v]
structure RtR (w:World) (F:Foot) (g:Nat) (t:Tp) (v:Value) (q:List Qe):Prop where
 head:Blk w g 42 (rtCells t v)
 own:OwnE w 0 v q
 ents:q.map Qe.ent=t.l
 fg:F g
 fv:∀ b,v.ownBlock=some b→F b
 fr:∀ x ∈ q,(rows3 x.r.txns≠[]→∀ b,x.vt.ownBlock=some b→F b∧b≠g)∧(rows2 x.r.pages≠[]→∀ b,x.vp.ownBlock=some b→F b∧b≠g)
 lt:∀ b,F b→b < w.heap.size
def IsRt (w:World) (F:Foot) (g:Nat) (t:Tp):Prop:=t.Ok∧∃ v q,RtR w F g t v q
namespace RtR
variable {w w':World} {F:Foot} {g:Nat} {t:Tp} {v:Value} {q:List Qe}
theorem only (h:RtR w F g t v q) {S:Nat→Prop} (hb:Only S w w') (hS:∀ b,F b→¬ S b):RtR w' F g t v q :=
 ⟨(hb.block g (h.lt g h.fg) (hS g h.fg)).trans h.head,⟨own_only h.own.own hb fun b hb2=>hS b (h.fv b hb2),fun x hx=>(h.own.lists x hx).keepA hb (fun hr b hb2=>hS b ((h.fr x hx).1 hr b hb2).1) (fun hr b hb2=>hS b ((h.fr x hx).2 hr b hb2).1),h.own.apart⟩,h.ents,h.fg,h.fv,h.fr,fun b hF=>Nat.lt_of_lt_of_le (h.lt b hF) hb.size⟩
theorem below (h:RtR w F g t v q) (hb:Below w.heap.size w w'):RtR w' F g t v q :=
 h.only (S:=fun b=>¬ b < w.heap.size) ⟨hb.os,hb.tape,hb.output,hb.size,fun b hlt _=>hb.block b hlt⟩ fun b hF hn=>hn (h.lt b hF)
theorem cells (h:RtR w F g t v q):w.cell? ⟨g,0,none⟩=some (.int .i64 (t.upto:Int))∧w.cell? ⟨g,1,none⟩=some v:=⟨h.head.cell 0,h.head.cell 1⟩
theorem vg (h:RtR w F g t v q):v.ownBlock≠some g:=own_blk h.own.own h.head (by decide)
end RtR
namespace IsRt
variable {w w':World} {F:Foot} {g:Nat} {t:Tp}
theorem only (h:IsRt w F g t) {S:Nat→Prop} (hb:Only S w w') (hS:∀ b,F b→¬ S b):IsRt w' F g t:=⟨h.1,h.2.elim fun v h=>h.elim fun q r=>⟨v,q,r.only hb hS⟩⟩
theorem below (h:IsRt w F g t) (hb:Below w.heap.size w w'):IsRt w' F g t:=⟨h.1,h.2.elim fun v h=>h.elim fun q r=>⟨v,q,r.below hb⟩⟩
theorem lt (h:IsRt w F g t):∀ b,F b→b < w.heap.size:=h.2.elim fun _ h=>h.elim fun _ r=>r.lt
end IsRt
theorem RtR.moved {w:World} {F:Foot} {g:Nat} {t:Tp} {v:Value} {q:List Qe} (h:RtR w F g t v q) (x:Int) (m:Nat) (hx:x=(m:Int)):RtR (w.setCell ⟨g,0,none⟩ (.int .i64 x)) F g { t with upto:=m } v q∧Step F F w (w.setCell ⟨g,0,none⟩ (.int .i64 x)):=by
 subst hx
 have hst:Step F F w (w.setCell ⟨g,0,none⟩ (.int .i64 (m:Int))):=(Step.refl F w).set (p:=⟨g,0,none⟩) h.fg _
 have ho:Only (· = g) w (w.setCell ⟨g,0,none⟩ (.int .i64 (m:Int))):=(Only.refl (· = g) w).set (p:=⟨g,0,none⟩) (.inl rfl) _
 refine ⟨⟨h.head.set 0 _,⟨own_only h.own.own ho fun b hb e=>by subst e; exact h.vg hb,fun x hx=>(h.own.lists x hx).keepA ho (fun hr b hb e=>((h.fr x hx).1 hr b hb).2 e) (fun hr b hb e=>((h.fr x hx).2 hr b hb).2 e),h.own.apart⟩,h.ents,h.fg,h.fv,h.fr,fun b hF=>by simpa [World.setCell] using h.lt b hF⟩,hst⟩
end Go.Proofs.YthkbcfhjmnpggaaGreat

namespace Go.Proofs.YthkbcfhjmnpggaaGreat
open Go.RowKit
theorem OwnE.joined3 {w2 w3:World} {B:Nat} {v2 v3:Value} {q2 q:List Qe} (h2:OwnE w2 B v2 q2) (hl:∀ x ∈ q,Lists w2 x.r x.vt x.vp) (hap:∀ x ∈ q,Apart v2 x)
 (ho:w3.ownsRow B 108 12 v3 (q2.length+q.length) (entsV q2++entsV q)) (hg:w2.grownBy w3 v2.ownBlock) (hat:v3.ownBlock=v2.ownBlock∨v3.ownBlock=some w2.heap.size):OwnE w3 B v3 (q2++q):=by
 have hon:Only (fun b=>v2.ownBlock=some b) w2 w3:=(Only.refl _ w2).grown hg fun b hb=>.inl hb
 have hall:∀ x ∈ q2++q,Lists w2 x.r x.vt x.vp∧Apart v2 x:=fun x hx=>by
  rcases List.mem_append.1 hx with hx | hx
  · exact ⟨h2.lists x hx,h2.apart x hx⟩
  · exact ⟨hl x hx,hap x hx⟩
 refine ⟨by rw [List.length_append,show entsV (q2++q)=entsV q2++entsV q by unfold entsV; rw [List.flatMap_append]]; exact ho,fun x hx=>?_,fun x hx b hb=>?_⟩
 ·obtain ⟨hll,haa⟩:=hall x hx
  exact hll.keepA hon (fun hr b hb e=>(haa b e).1 hr hb) (fun hr b hb e=>(haa b e).2 hr hb)
 ·obtain ⟨hll,haa⟩:=hall x hx
  rcases hat with hat | hat
  · exact haa b (hat ▸ hb)
  ·rw [hat] at hb
   cases hb
   exact ⟨fun hr e=>by have:=hll.t.blt hr _ e; omega,fun hr e=>by have:=hll.p.blt hr _ e; omega⟩
def YieldE (B:Nat) (q:List Qe):Yield:=⟨none,fun x w=>OwnE w B x q,fun _ _ _ hb h=>h.keep hb,fun _ h=>by cases h⟩
section
variable {w:World} {F FL:Foot} {g gl gd:Nat} {t:Tp} {l:Wl}
set_option maxRecDepth 100000 in
set_option maxHeartbeats 4000000 in
theorem rtWhole_ok (hT:IsRt w F g t) (hL:IsRL w FL gl gd l) (hlow:l.low≤t.upto) (hlen:t.l.length≤40000000) :
 Calls Tryz.prog 26 #[.pointer (some ⟨g,0,none⟩),.pointer (some ⟨gl,0,none⟩)] w fun e w'=>∃ v,e=.returned (.tuple #[v,.int .i64 0])∧IsEnts w' v (t.whole l)∧Below w.heap.size w w':=by
 have HT:=Lib.hid hT
 have HL:=Lib.hid hL
 have C:Hid (∀ W,Below w.heap.size w W→W.cell? ⟨g,0,none⟩=some (.int .i64 (t.upto:Int))∧W.cell? ⟨gl,3,none⟩=some (.int .i64 l.low)):=fun W hW=>by
  obtain ⟨_,v,q,r⟩:=HT.out.below hW
  obtain ⟨_,vb,r2⟩:=HL.out.below hW
  obtain ⟨_,_,_,c3,_⟩:=r2.cells
  exact ⟨r.cells.1,c3⟩
 have hlt:¬ (t.upto:Int) < l.low:=by omega
 have HWH:Hid (t.whole l=t.l++t.behind l):=if_neg (by omega)
 have SC:Hid (∀ W,Below w.heap.size w W→Calls Tryz.prog 51 #[.pointer (some ⟨gl,0,none⟩),.int .i64 ((t.upto:Int)*128)] W (EntsOut W (t.behind l))):=fun W hW=>by
  have:=rlScan_any (HL.out.below hW) (((t.upto*128:Nat)):Int)
  rw [show ((t.upto*128:Nat):Int)=(t.upto:Int)*128 by omega] at this
  unfold Tp.behind
  rw [show ((t.upto*128:Nat):Int)=(t.upto:Int)*128 by omega]
  exact this
 obtain ⟨c0,c3⟩:=C.out w (Below.refl _ _)
 have hum:(t.upto:Int)≤4294967296:=by have:=HT.out.1.um; omega
 have hu0:(0:Int)≤t.upto:=by omega
 obtain ⟨tok,v,q,r⟩:=hT
 have HR:=Lib.hid r
 obtain ⟨va,vc,hv⟩:=own_slice r.own.own
 have hqn:q.length≤40000000:=by
  have e:=congrArg List.length r.ents
  rw [List.length_map] at e
  omega
 subst hv
 have c1:w.cell? ⟨g,1,none⟩=some (.slice va q.length vc):=r.cells.2
 obtain ⟨i0,hi0,hz0,hz1,hz2⟩:=info_parts ta_info
 clear hL r tok HT
 generalize (t.upto:Int)=u at *
 generalize (l.low:Int)=lo at *
 go_enter Tryz.func26,Tryz.ntmps26
 go_wp2_with fail
 go_quiet (fail)
 go_upto_region 3 with fail
 have b3:=drewN_below w nq
 have d0:(w.drewN nq).cell? ⟨g,0,none⟩=some (.int .i64 u):=c0
 have d1:(w.drewN nq).cell? ⟨g,1,none⟩=some (.slice va q.length vc):=c1
 clear c0 c1 c3
 generalize w.drewN nq=w3 at *
 have SRC:Hid (∀ W,Below w3.heap.size w3 W→OwnE W 0 (.slice va q.length vc) q):=fun W hW=>(HR.out.below (below2 b3 hW)).own
 have RLT:Hid (∀ x ∈ q,(rows3 x.r.txns≠[]→∀ b,x.vt.ownBlock=some b→b < w3.heap.size)∧(rows2 x.r.pages≠[]→∀ b,x.vp.ownBlock=some b→b < w3.heap.size)):=fun x hx =>
  ⟨fun hr b hb=>Nat.lt_of_lt_of_le (HR.out.lt b ((HR.out.fr x hx).1 hr b hb).1) b3.size,fun hr b hb=>Nat.lt_of_lt_of_le (HR.out.lt b ((HR.out.fr x hx).2 hr b hb).1) b3.size⟩
 have B3:=Lib.hid b3
 have D:Hid (∀ W,Below w3.heap.size w3 W→W.cell? ⟨g,0,none⟩=some (.int .i64 u)∧W.cell? ⟨g,1,none⟩=some (.slice va q.length vc)):=fun W hW =>
  ⟨(hW.cell (p:=⟨g,0,none⟩) (World.block_lt_of_cell? w3 _ d0)).trans d0,(hW.cell (p:=⟨g,1,none⟩) (World.block_lt_of_cell? w3 _ d1)).trans d1⟩
 have HI:=Lib.hid (And.intro hi0 (And.intro hz0 (And.intro hz1 hz2)))
 have HU:=Lib.hid (And.intro hum hu0)
 have HLEN:=Lib.hid hlen
 have HENT:=Lib.hid HR.out.ents
 have HCN:Hid ((t.behind l).length≤7168):=Nat.le_trans (List.length_filter_le _ _) (Wl.all_count HL.out.1)
 clear b3 d0 d1 hi0 hz0 hz1 hz2 hlt HR C
 refine' wp_region_conf 12 (.slice w3.heap.size 0 108 #[]::.is _::.is _::.is _::.is _::YieldE w3.heap.size q::.is _::.is _::.is _::.is _::.is _::.is _::[]) (by kernel_rfl) (by kernel_rfl) (by kernel_rfl) (by kernel_rfl) rfl ?main
 case main =>
  refine obs_slice (fun w8 hE2 _=>?_) (fun q1=>?_)
  ·go_wp2
   exact ⟨_,rfl,⟨w8.heap.size,hE2.size,rfl,Blk.new _ _ _⟩,(Below.refl _ _).alloc (Nat.le_refl _) _⟩
  simp only [Act.put,sA,sB,sC]
  iterate 4
   refine obs_is (fun w8 hE2 _=>?_) ?_
   ·obtain ⟨c0,c1⟩:=D.out w8 ((Below.refl w3.heap.size w3).drew.trans hE2)
    clear hE2
    go_wp2_with fail
    exact post_is (Below.refl _ _)
   simp only [Act.put,sA,sB,sC]
  refine ⟨fun w8 hE2 hkn=>?_,fun q5=>?_⟩
  ·obtain ⟨g5,hg5,rfl,hb5⟩:∃ g5,w3.heap.size≤g5∧q1=.slice (some ⟨g5,0,none⟩) 0 0∧Blk w8 g5 108 #[]:=hkn _ (List.mem_cons_self ..) (by kernel_rfl)
   have hB8:=(Below.refl w3.heap.size w3).drew.trans hE2
   have O8:=SRC.out w8 hB8
   have OW:Hid (w8.ownsRow w3.heap.size 108 12 (.slice (some ⟨g5,0,none⟩) 0 0) 0 []):=⟨rfl,.inr ⟨g5,0,#[],rfl,hg5,hb5,Nat.le_refl _,by decide,rfl,rfl⟩⟩
   have X8:=Lib.hid O8.srcx
   have HO8:=Lib.hid O8
   have HB8:Hid (w3.heap.size≤w8.heap.size):=hB8.size
   clear hkn hE2 hB8 hb5 O8
   obtain ⟨hi0,hz0,hz1,hz2⟩:=HI.out
   go_wp2_with (at_builtin; refine wpList_append_full rfl (.tmp 15) (.tmp 19) 40 rfl w3.heap.size 108 i0 _ 12 144 Tryz.underlying40 hi0 hz0 hz1 hz2 rfl (by decide) _ 0 [] rfl OW.out (.inr ⟨_,rfl⟩) _ q.length (entsV q) rfl X8.out (by simp only [maxLen]; omega) (by omega) HB8.out ?_)
   intro v' w9 hown hb9 _
   refine ⟨v',rfl,?_,hb9⟩
   have hown2:w9.ownsRow w3.heap.size 108 12 v' q.length (entsV q):=by simpa using hown
   exact ⟨hown2,fun x hx=>(HO8.out.lists x hx).keep hb9,fun x hx b hb=>⟨fun hr e=>by have:=(RLT.out x hx).1 hr b e; have:=(hown2.lt b hb).1; omega,fun hr e=>by have:=(RLT.out x hx).2 hr b e; have:=(hown2.lt b hb).1; omega⟩⟩
  simp only [Act.put,sA,sB,sC]
  iterate 6
   refine obs_is (fun w8 hE2 _=>?_) ?_
   ·obtain ⟨c0,c1⟩:=D.out w8 ((Below.refl w3.heap.size w3).drew.trans hE2)
    obtain ⟨hu1,hu2⟩:=HU.out
    clear hE2
    go_wp2_with fail
    exact post_is (Below.refl _ _)
   simp only [Act.put,sA,sB,sC]
  refine obs_end fun w8 hE3 hkn=>?_
  have h5:OwnE w8 w3.heap.size q5 q:=hkn (5,YieldE w3.heap.size q,q5) (List.mem_cons_self ..)
  have hB8:=(Below.refl w3.heap.size w3).drew.trans hE3
  have S8:=Lib.hid (SC.out w8 (below2 B3.out hB8))
  have HB8:=Lib.hid hB8
  have H5:=Lib.hid h5
  obtain ⟨a5,c5,hq5⟩:=own_slice h5.own
  clear hkn hE3 hB8 h5 SC D SRC
  subst hq5
  change wpList _ _ _ _ _ _
  go_wp2_with fail
  refine S8.out.mono ?_
  rintro e w9 ⟨vr,qr,rfl,hqr,hor,hb9,hfr⟩
  have hnr:qr.length≤7168:=by
   have e:=congrArg List.length hqr
   rw [List.length_map] at e
   have:=HCN.out
   omega
  have h59:=H5.out.keep hb9
  have JOIN:Hid (∀ w10 v10,w10.ownsRow w3.heap.size 108 12 v10 (q.length+qr.length) (entsV q++entsV qr)→w9.grownBy w10 (Value.slice a5 q.length c5).ownBlock→(v10.ownBlock=(Value.slice a5 q.length c5).ownBlock∨v10.ownBlock=some w9.heap.size)→IsEnts w10 v10 (t.whole l)∧Below w.heap.size w w10):=fun w10 v10 h1 h2 h3=>by
   have hap:∀ x ∈ qr,Apart (.slice a5 q.length c5) x:=fun x hx b hb=>by
    have h8:=(H5.out.own.lt b hb).2
    exact ⟨fun hr e=>by have:=(hfr x hx).1 hr b e; omega,fun hr e=>by have:=(hfr x hx).2 hr b e; omega⟩
   have J:=h59.joined3 hor.lists hap h1 h2 h3
   have E:=J.isEnts
   rw [List.map_append,HENT.out,hqr,← HWH.out] at E
   refine ⟨E,(below2 B3.out (below2 HB8.out hb9)).grown h2 (Nat.le_trans B3.out.size (Nat.le_trans HB8.out.size hb9.size)) fun k hk=>Nat.le_trans B3.out.size (h59.own.lt k hk).1⟩
  have X9:=Lib.hid hor.srcx
  have OW9:=Lib.hid h59.own
  have HSZ9:Hid (w3.heap.size≤w9.heap.size):=Nat.le_trans HB8.out.size hb9.size
  obtain ⟨ar,cr,hvr⟩:=own_slice hor.own
  clear hqr hor hb9 hfr h59 S8 H5 RLT
  subst hvr
  obtain ⟨hi0,hz0,hz1,hz2⟩:=HI.out
  go_wp2_with (at_builtin; refine wpList_append_src rfl (.tmp 20) (.tmp 27) 40 rfl w3.heap.size 108 i0 _ 12 144 Tryz.underlying40 hi0 hz0 hz1 hz2 rfl (by decide) _ _ _ rfl OW9.out _ qr.length (entsV qr) rfl X9.out (by simp only [maxLen]; omega) (by omega) HSZ9.out ?_)
  intro v10 w10 hown hgrow hat
  have J:=Lib.hid (JOIN.out w10 v10 hown hgrow hat)
  obtain ⟨a10,c10,hv10⟩:=own_slice hown
  clear hown hgrow hat JOIN X9 OW9 HSZ9
  subst hv10
  go_wp2
  go_ret2
  exact ⟨_,rfl,J.out.1,J.out.2⟩
end
end Go.Proofs.YthkbcfhjmnpggaaGreat

namespace Go.Proofs.YthkbcfhjmnpggaaGreat
open Go.RowKit
structure AddAt (w wr:World) (F:Foot) (g:Nat) (t:Tp) (vl:Value) (q qr qk:List Qe) (v:Value):Prop where
 head:Blk wr g 42 (rtCells t v)
 own:OwnE wr 0 v (q++qk)
 all:OwnE wr w.heap.size vl qr
 fresh:FreshQ w.heap.size qr
 sub:∀ x ∈ qk,x ∈ qr
 fv:∀ b,v.ownBlock=some b→F b∨w.heap.size≤b
 far:∀ b,v.ownBlock=some b→vl.ownBlock≠some b
 apart:∀ x ∈ qr,Apart v x
 step:Step F (fun b=>F b∨(w.heap.size≤b∧b < wr.heap.size)) w wr
 frg:∀ x ∈ q,(rows3 x.r.txns≠[]→∀ b,x.vt.ownBlock=some b→b≠g)∧(rows2 x.r.pages≠[]→∀ b,x.vp.ownBlock=some b→b≠g)
 gF:F g
 gl:g < w.heap.size
namespace AddAt
variable {w wr w8 w9:World} {F:Foot} {g:Nat} {t:Tp} {vl v v':Value} {q qr qk:List Qe}
theorem more (h:AddAt w wr F g t vl q qr qk v) (hb:Below wr.heap.size wr w8):AddAt w w8 F g t vl q qr qk v :=
 ⟨h.head.keep hb h.head.lt,h.own.keep hb,h.all.keep hb,h.fresh,h.sub,h.fv,h.far,h.apart,⟨(h.step.more hb).os,(h.step.more hb).tape,(h.step.more hb).output,(h.step.more hb).size,(h.step.more hb).block,fun _ hF=>hF.elim .inl fun e=>.inr e.1⟩,h.frg,h.gF,h.gl⟩
theorem push (h:AddAt w w8 F g t vl q qr qk v) {x:Qe} (hx:x ∈ qr) (ho:w9.ownsRow 0 108 12 v' ((q++qk).length+1) (entsV (q++qk)++x.cells)) (hg:w8.grownBy w9 v.ownBlock) (hat:v'.ownBlock=v.ownBlock∨v'.ownBlock=some w8.heap.size) :
 Blk w9 g 42 (rtCells t v)∧AddAt w (w9.setCell ⟨g,1,none⟩ v') F g t vl q qr (qk++[x]) v':=by
 have hon:Only (fun b=>v.ownBlock=some b) w8 w9:=(Only.refl _ w8).grown hg fun b hb=>.inl hb
 have hvg:v.ownBlock≠some g:=own_blk h.own.own h.head (by decide)
 have B9:Blk w9 g 42 (rtCells t v):=(hg.block g h.head.lt fun e=>hvg e.symm).trans h.head
 have hvg':v'.ownBlock≠some g:=own_blk ho B9 (by decide)
 have hone:entsV [x]=x.cells:=by unfold entsV; simp
 have hlx:=h.all.lists x hx
 have hJ:OwnE w9 0 v' ((q++qk)++[x]):=h.own.joined3 (q:=[x]) (fun y hy=>by simp at hy; rw [hy]; exact hlx) (fun y hy=>by simp at hy; rw [hy]; exact h.apart x hx) (by rw [hone]; exact ho) hg hat
 have hA:OwnE w9 w.heap.size vl qr:=⟨own_only h.all.own hon fun b hb e=>h.far b e hb,fun y hy=>(h.all.lists y hy).keepA hon (fun hr b hb e=>(h.apart y hy b e).1 hr hb) (fun hr b hb e=>(h.apart y hy b e).2 hr hb),h.all.apart⟩
 have hset:Only (· = g) w9 (w9.setCell ⟨g,1,none⟩ v'):=(Only.refl (· = g) w9).set (p:=⟨g,1,none⟩) (.inl rfl) _
 have hrow:∀ y ∈ (q++qk)++[x],(rows3 y.r.txns≠[]→∀ b,y.vt.ownBlock=some b→b≠g)∧(rows2 y.r.pages≠[]→∀ b,y.vp.ownBlock=some b→b≠g):=fun y hy=>by
  have hq:y ∈ q∨y ∈ qr:=by
   rcases List.mem_append.1 hy with hy | hy
   · exact (List.mem_append.1 hy).imp id (h.sub y)
   · simp at hy; rw [hy]; exact .inr hx
  rcases hq with hq | hq
  · exact h.frg y hq
  ·have:=h.gl
   exact ⟨fun hr b hb=>by have:=(h.fresh y hq).1 hr b hb; omega,fun hr b hb=>by have:=(h.fresh y hq).2 hr b hb; omega⟩
 have hs8:=h.step.size
 refine ⟨B9,⟨B9.set 1 v',?_,?_,h.fresh,fun y hy=>?_,fun b hb=>?_,fun b hb=>?_,fun y hy b hb=>?_,?_,h.frg,h.gF,h.gl⟩⟩
 ·rw [← List.append_assoc]
  exact ⟨own_only hJ.own hset fun b hb e=>by subst e; exact hvg' hb,fun y hy=>(hJ.lists y hy).keepA hset (fun hr b hb e=>(hrow y hy).1 hr b hb e) (fun hr b hb e=>(hrow y hy).2 hr b hb e),hJ.apart⟩
 · exact ⟨own_only hA.own hset fun b hb e=>by subst e; have:=(hA.own.lt _ hb).1; have:=h.gl; omega,fun y hy=>(hA.lists y hy).keepA hset (fun hr b hb e=>by subst e; have:=(h.fresh y hy).1 hr _ hb; have:=h.gl; omega) (fun hr b hb e=>by subst e; have:=(h.fresh y hy).2 hr _ hb; have:=h.gl; omega),hA.apart⟩
 ·rcases List.mem_append.1 hy with hy | hy
  · exact h.sub y hy
  · simp at hy; rw [hy]; exact hx
 ·rcases hat with hat | hat
  · exact h.fv b (hat ▸ hb)
  · rw [hat] at hb; cases hb; exact .inr hs8
 ·rcases hat with hat | hat
  · exact h.far b (hat ▸ hb)
  ·rw [hat] at hb; cases hb
   exact fun e=>by have:=(h.all.own.lt _ e).2; omega
 ·rcases hat with hat | hat
  · exact h.apart y hy b (hat ▸ hb)
  ·rw [hat] at hb; cases hb
   exact ⟨fun hr e=>by have:=(h.all.lists y hy).t.blt hr _ e; omega,fun hr e=>by have:=(h.all.lists y hy).p.blt hr _ e; omega⟩
 ·have hs9:=hg.size
  have h1:Step F (fun b=>F b∨(w.heap.size≤b∧b < (w9.setCell ⟨g,1,none⟩ v').heap.size)) w w9:=⟨hon.os.trans h.step.os,hon.tape.trans h.step.tape,hon.output.trans h.step.output,by omega,fun b hlt hF=>(hon.block b (by omega) fun e=>(h.fv b e).elim hF fun e2=>by omega).trans (h.step.block b hlt hF),fun b hF=>hF.elim .inl fun e=>.inr e.1⟩
  exact h1.set (.inl h.gF) _
end AddAt
end Go.Proofs.YthkbcfhjmnpggaaGreat
