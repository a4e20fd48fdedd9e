/- Texts that belong together, joined: WalI, WalJ, Repeat, DiskH, Few, RecM2, WalK, WlE, WlH, WlI, TpA, WalL, WalM. -/
import Derived.Test.YthkbcfhjmnpggaaGreatK15
import Derived.Deep.LoopGhost
import Derived.IntWalk
import Derived.Test.YthkbcfhjmnpggaaGreatK01
import Derived.Test.YthkbcfhjmnpggaaGreatK00
import Derived.Laws.OwnMore
import Derived.Laws.CopyRow
import Derived.Laws.CopyOwn
import Derived.Laws.BitsAllLaws
import Derived.Test.YthkbcfhjmnpggaaGreatK03
import Derived.Test.YthkbcfhjmnpggaaGreatK11
import Derived.Test.YthkbcfhjmnpggaaGreatK13
import Derived.Test.YthkbcfhjmnpggaaGreatK17
namespace Go.Proofs.YthkbcfhjmnpggaaGreat
open Go.RowKit
namespace Wl
def rest (l:Wl) (from_:Int) (k:Nat):List Ent:=(allFrom k (l.secs.drop (k - l.low))).filter fun x=>decide (from_≤x.1)
theorem rest_end (l:Wl) (f:Int) (k:Nat) (h:l.end_≤k):l.rest f k = []:=by
 unfold rest
 rw [List.drop_of_length_le (by unfold end_ at h; omega)]
 rfl
theorem rest_step (l:Wl) (f:Int) (k:Nat) (h1:l.low≤k) (h2:k < l.end_):l.rest f k=(l.entries k).filter (fun x=>decide (f≤x.1))++l.rest f (k+1):=by
 have hlt:k - l.low < l.secs.length:=by unfold end_ at h2; omega
 unfold rest
 rw [List.drop_eq_getElem_cons hlt,show k+1 - l.low=k - l.low+1 by omega]
 simp only [allFrom,List.filter_append]
 congr 2
 unfold entries
 rw [if_pos ⟨by omega,by omega⟩,Int.toNat_natCast,List.getD_eq_getElem?_getD,List.getElem?_eq_getElem hlt,Int.natCast_mul]
 rfl
theorem rest_low (l:Wl) (f:Int):l.rest f l.low=l.scan f:=by
 unfold rest scan all
 rw [Nat.sub_self]
 rfl
theorem entries_lt {l:Wl} (h:l.Ok) (k:Nat):∀ x ∈ l.entries k,x.1 < (k:Int)*128+128:=fun x hx=>by
 unfold entries at hx
 split at hx
 ·rename_i hc
  have hlt:k - l.low < l.secs.length:=by have:=hc.2; unfold end_ at this; omega
  have hmem:l.secs.getD ((k:Int).toNat - l.low) [] ∈ l.secs:=by
   rw [Int.toNat_natCast,List.getD_eq_getElem?_getD,List.getElem?_eq_getElem hlt]
   exact List.getElem_mem hlt
  obtain ⟨_,hm,h112⟩:=h.sec _ hmem
  have h112':((l.secs.getD ((k:Int).toNat - l.low) []).flatMap lay).length≤112:=h112
  have:=entsOf_ge _ _ hm x hx
  omega
 · simp at hx
theorem rest_skip {l:Wl} (h:l.Ok) (f:Int) (s:Nat) (hs:(s:Int)*128≤f∨s≤l.low):∀ (d k:Nat),s - k=d→l.low≤k→k≤s→l.rest f k=l.rest f s:=by
 intro d
 induction d with
 | zero=>intro k hd h1 h2; rw [show k=s by omega]
 | succ d ih =>
   intro k hd h1 h2
   rw [← ih (k+1) (by omega) (by omega) (by omega)]
   by_cases hk:k < l.end_
   ·rw [rest_step l f k h1 hk]
    have:(l.entries k).filter (fun x=>decide (f≤x.1)) = []:=by
     rw [List.filter_eq_nil_iff]
     intro x hx
     have:=entries_lt h k x hx
     simp
     omega
    rw [this,List.nil_append]
   · rw [rest_end l f k (by omega),rest_end l f (k+1) (by omega)]
end Wl
theorem FreshQ.apart {B':Nat} {v:Value} {qe:List Qe} (h:FreshQ B' qe) (hv:∀ b,v.ownBlock=some b→b < B'):∀ x ∈ qe,Apart v x:=fun x hx b hb =>
 ⟨fun hr e=>by have:=(h x hx).1 hr b e; have:=hv b hb; omega,fun hr e=>by have:=(h x hx).2 hr b e; have:=hv b hb; omega⟩
theorem OwnE.grown {w w':World} {B:Nat} {ve v:Value} {qe:List Qe} (h:OwnE w B ve qe) (hg:w.grownBy w' v.ownBlock) (hne:∀ b,v.ownBlock=some b→ve.ownBlock≠some b) (ha:∀ x ∈ qe,Apart v x):OwnE w' B ve qe:=by
 have hon:Only (fun b=>v.ownBlock=some b) w w':=(Only.refl _ w).grown hg fun b hb=>.inl hb
 exact ⟨own_only h.own hon fun b hb e=>hne b e hb,fun x hx=>(h.lists x hx).keepA hon (fun hr b hb e=>(ha x hx b e).1 hr hb) (fun hr b hb e=>(ha x hx b e).2 hr hb),h.apart⟩
section
variable {w:World} {F:Foot} {g gd:Nat} {l:Wl}
theorem entries_count {l:Wl} (h:l.Ok) (k:Int):(l.entries k).length≤112:=by
 unfold Wl.entries
 split
 ·rename_i hc
  have hlt:k.toNat - l.low < l.secs.length:=by have:=hc.2; unfold Wl.end_ at this; omega
  have hmem:l.secs.getD (k.toNat - l.low) [] ∈ l.secs:=by
   rw [List.getD_eq_getElem?_getD,List.getElem?_eq_getElem hlt]
   exact List.getElem_mem hlt
  obtain ⟨_,hm,h112⟩:=h.sec _ hmem
  rw [entsOf_len]
  exact Nat.le_trans (body_count _ hm) h112
 · exact Nat.zero_le _
set_option maxRecDepth 100000 in
set_option maxHeartbeats 8000000 in
theorem scan_from (h:IsLog w F g gd l) (from_:Int) (d:Int) (hd:IntKind.i64.wrap (from_.tdiv 128)=d) (s:Nat) (hs:(d≤l.low∧s=l.low)∨((l.low:Int) < d∧(s:Int)=d)) (hs2:l.rest from_ s=l.scan from_) (hsm:s≤144115188075855872) :
 Calls Tryz.prog 82 #[.pointer (some ⟨g,0,none⟩),.int .i64 from_] w (EntsOut w (l.scan from_)):=by
 have HLOG:=Lib.hid h
 have HS2:=Lib.hid hs2
 have HD:=Lib.hid hd
 have c4:=h.zero.cells.2.2.2
 have ok:=h.1
 have hlm:(l.low:Int)≤2147483647:=by have:=ok.lm; omega
 have hem:(l.end_:Int)≤2147483711:=by have:=ok.lm; have:=ok.len; have:=ok.s64; unfold Wl.end_; omega
 have hels:l.end_≤l.low+64:=by have:=ok.len; have:=ok.s64; unfold Wl.end_; omega
 have hsl:l.low≤s:=by omega
 have hmax:(if (l.low:Int) < d then d else (l.low:Int))=(s:Int):=by split <;> omega
 clear h hs2 ok hs
 go_enter Tryz.func82,Tryz.ntmps82
 go_wp2_with fail
 clear hmax hd c4
 have hsi:(s:Int)≤144115188075855872:=by omega
 go_loopg [5,6] (l.end_ - s) (fun n v vk wr=>∃ (k:Nat) (q:List Qe),vk=.int .i64 k∧n=l.end_ - k∧s≤k∧k≤144115188075855872+64∧(k≤s∨k≤l.end_)∧OwnE wr w.heap.size v q∧q.map Qe.ent++l.rest from_ k=l.scan from_∧q.length≤112*(k - s)∧Below w.heap.size w wr∧FreshQ w.heap.size q)
 case atStart=>exact ⟨s,[],rfl,rfl,Nat.le_refl _,by omega,.inl (Nat.le_refl _),OwnE.nil _ _,HS2.out,Nat.zero_le _,Below.refl _ _,FreshQ.nil _⟩
 case round =>
  obtain ⟨k,q,rfl,hgk,hsk,hk1,hk2,ho,hq,hql,hB,hfq⟩:=hrel
  have HFQ:=Lib.hid hfq
  clear hfq
  have HO:=Lib.hid ho
  have HQ:=Lib.hid hq
  have HB:=Lib.hid hB
  have HGK:=Lib.hid hgk
  have HE:=Lib.hid (end_any (HLOG.out.below hB))
  have hki:(k:Int)≤144115188075855936:=by omega
  clear ho hq hB hgk
  by_cases hlt:k < l.end_
  ·have HEN:Hid (∀ m,Calls Tryz.prog 108 #[.pointer (some ⟨g,0,none⟩),.int .i64 k] (wr.drewN m) (EntsOut (wr.drewN m) (l.entries k))):=fun m=>entries_any ((HLOG.out.below HB.out).below (drewN_below wr m)) k
   have hec:=entries_count HLOG.out.1 (k:Int)
   have hstep:=Wl.rest_step l from_ k (by omega) hlt
   have HSTEP:=Lib.hid hstep
   have hlti:(k:Int) < l.end_:=by omega
   clear hstep
   generalize l.entries (k:Int)=es at *
   go_wp2_with fail
   refine HE.out.mono ?_
   rintro e w1 ⟨rfl,n1,rfl⟩
   go_wp2_with fail
   refine (HEN.out _).mono ?_
   rintro e w2 ⟨ve,qe,rfl,hqe,hoe,hbe,hfe⟩
   have HO2:=Lib.hid (HO.out.keep ((drewN_below wr n1).trans (hbe.mono (Nat.le_refl _))))
   have HB2:=Lib.hid (below2 HB.out ((drewN_below wr n1).trans (hbe.mono (Nat.le_refl _))))
   have hqel:qe.length≤112:=by rw [← hqe,List.length_map] at hec; exact hec
   have HQE:=Lib.hid hqe
   have hsz:w.heap.size≤(wr.drewN n1).heap.size:=HB.out.size
   have hap1:∀ x ∈ qe,Apart u5 x:=hfe.apart fun b hb=>(HO.out.own.lt b hb).2
   have hap2:∀ b,(u5:Value).ownBlock=some b→ve.ownBlock≠some b:=fun b hb e=>by have h1:=(HO.out.own.lt b hb).2; have h2:=(hoe.own.lt b e).1; exact absurd h1 (Nat.not_lt.2 h2)
   have HAP:=Lib.hid (And.intro hap1 hap2)
   have HFE:=Lib.hid (hfe.base hsz)
   have HOE:=Lib.hid (hoe.base hsz)
   obtain ⟨vea,vec,hve⟩:=own_slice hoe.own
   subst hve
   have hqi:(qe.length:Int)≤112:=by omega
   have HES:Hid (es=qe.map Qe.ent):=hqe.symm
   obtain ⟨i0,hi0,hz0,hz1,hz2⟩:=info_parts info_entry
   have HI:=Lib.hid (And.intro hi0 (And.intro hz0 (And.intro hz1 hz2)))
   clear hi0 hz0 hz1 hz2 hap1 hap2 hoe hqe hbe hfe hec HO HB HE HEN HQE
   have hk64:k - s≤64:=by omega
   go_wp2_with fail
   go_loopg [5,28] qe.length (fun n v vj w3=>∃ (j:Nat) (q2:List Qe),vj=.int .i64 j∧n=qe.length - j∧j≤qe.length∧OwnE w3 w.heap.size v q2∧OwnE w3 w.heap.size (.slice vea qe.length vec) qe∧q2.map Qe.ent=q.map Qe.ent++((qe.take j).map Qe.ent).filter (fun x=>decide (from_≤x.1))∧q2.length≤112*(k - s)+j∧Below w.heap.size w w3 ∧
    (∀ x ∈ qe,Apart v x)∧(∀ b,v.ownBlock=some b→(Value.slice vea qe.length vec).ownBlock≠some b)∧FreshQ w.heap.size q2)
   case atStart=>exact ⟨0,q,rfl,rfl,Nat.zero_le _,HO2.out,HOE.out,by simp,by omega,HB2.out,HAP.out.1,HAP.out.2,HFQ.out⟩
   case round =>
    obtain ⟨j,q2,rfl,hgj,hj,ho2,hoe,hq2,hql2,hB3,hp1,hp2,hfq2⟩:=hrel
    clear HO2 HB2 HOE HAP HFQ
    by_cases hjl:j < qe.length
    ·obtain ⟨ge,ce,hve,_,_⟩:=own_form hoe.own (by omega)
     cases hve
     have hmem:=List.getElem_mem hjl
     have hlx:=hoe.lists _ hmem
     have hxa:=hp1 _ hmem
     have hfx:=HFE.out _ hmem
     have htk:(qe.take (j+1)).map Qe.ent=(qe.take j).map Qe.ent++[qe[j].ent]:=by rw [List.take_succ_eq_append_getElem hjl,List.map_append]; rfl
     have hrange:wr.rangeAt ge (j*12) qe[j].cells:=fun i u hu=>by
      have hi:i < 12:=by have:=(List.getElem?_eq_some_iff.1 hu).1; rwa [Qe.cells_len] at this
      rw [hoe.own.cellAt (j*12+i) (by omega),entsV_at qe j hjl i hi,hu]
     have HTK:=Lib.hid htk
     have HO:=Lib.hid ho2
     have HOE:=Lib.hid hoe
     have HQ2:=Lib.hid hq2
     have HB:=Lib.hid hB3
     have HP:=Lib.hid (And.intro hp1 hp2)
     have HFQ2:=Lib.hid hfq2
     have HGJ:=Lib.hid hgj
     have HXA:=Lib.hid hxa
     have HFX:=Lib.hid hfx
     have HLX:=Lib.hid hlx
     clear htk ho2 hoe hq2 hB3 hp1 hp2 hfq2 hgj hmem
     have hji:(j:Int) < qe.length:=by omega
     generalize qe[j]=x at *
     obtain ⟨at_,r,vt,vp⟩:=x
     obtain ⟨ta,tc,hvt⟩:=hlx.t.form
     obtain ⟨pa,pc,hvp⟩:=hlx.p.form
     simp only at hvt hvp
     subst hvt hvp
     clear hlx hxa hfx
     have hn:=Blk.new wr 108 #[.int .i64 0,.int .i64 0,.int .i64 0,.int .i64 0,.int .i64 0,.int .i64 0,.int .i64 0,.int .i64 0,.string ⟨#[]⟩,.string ⟨#[]⟩,.slice none 0 0,.slice none 0 0]
     have N3:=hn.setRow (Qe.cells ⟨at_,r,.slice ta r.txns.length tc,.slice pa r.pages.length pc⟩).toArray
     have hb3:=below_setRow ((Below.refl wr.heap.size wr).alloc (Nat.le_refl _) (.cells #[.int .i64 0,.int .i64 0,.int .i64 0,.int .i64 0,.int .i64 0,.int .i64 0,.int .i64 0,.int .i64 0,.string ⟨#[]⟩,.string ⟨#[]⟩,.slice none 0 0,.slice none 0 0] 108)) (Nat.le_refl _) (Qe.cells ⟨at_,r,.slice ta r.txns.length tc,.slice pa r.pages.length pc⟩).toArray
     have HO3:=Lib.hid (HO.out.keep hb3)
     have HOE3:=Lib.hid (HOE.out.keep hb3)
     have HLX3:=Lib.hid (HLX.out.keep hb3)
     have HB3:=Lib.hid (below2 HB.out hb3)
     go_upto_region 10 with (first
      | (refine wpList_load_mid rfl 108 _ rfl ge (j*12) rfl _ _ hrange Tryz.underlying108 rfl (by kernel_rfl) ?_)
      | (refine wpList_store_row rfl 108 _ _ rfl wr.heap.size _ rfl rfl 108 _ hn (by kernel_rfl) rfl (by simp [Qe.cells,recCells,Value.oneCell']) ?_))
     change Code.wp _ _ _ _ ((wr.alloc (.cells #[.int .i64 0,.int .i64 0,.int .i64 0,.int .i64 0,.int .i64 0,.int .i64 0,.int .i64 0,.int .i64 0,.string ⟨#[]⟩,.string ⟨#[]⟩,.slice none 0 0,.slice none 0 0] 108)).setRow wr.heap.size (Qe.cells ⟨at_,r,.slice ta r.txns.length tc,.slice pa r.pages.length pc⟩).toArray)
     clear hn hb3 hrange HO HOE HLX HB
     generalize (wr.alloc (.cells #[.int .i64 0,.int .i64 0,.int .i64 0,.int .i64 0,.int .i64 0,.int .i64 0,.int .i64 0,.int .i64 0,.string ⟨#[]⟩,.string ⟨#[]⟩,.slice none 0 0,.slice none 0 0] 108)).setRow wr.heap.size (Qe.cells ⟨at_,r,.slice ta r.txns.length tc,.slice pa r.pages.length pc⟩).toArray=w3 at *
     generalize wr.heap.size=y at *
     have d0:=N3.cell 0
     simp [Qe.cells] at d0
     by_cases hfa:from_≤at_
     ·have hfil:(q2.map Qe.ent)++[(at_,r)]=q.map Qe.ent++((qe.take (j+1)).map Qe.ent).filter (fun x=>decide (from_≤x.1)):=by
       rw [HTK.out,HQ2.out,List.filter_append]
       simp [Qe.ent,hfa]
      have HFIL:=Lib.hid hfil
      obtain ⟨hi0,hz0,hz1,hz2⟩:=id HI.out
      have B4:Below w3.heap.size w3 (w3.alloc (.cells (Qe.cells ⟨at_,r,.slice ta r.txns.length tc,.slice pa r.pages.length pc⟩).toArray 108)):=(Below.refl _ _).alloc (Nat.le_refl _) _
      have HO4:=Lib.hid (HO3.out.keep B4)
      have HOE4:=Lib.hid (HOE3.out.keep B4)
      have HLX4:=Lib.hid (HLX3.out.keep B4)
      have HB4:=Lib.hid (below2 HB3.out B4)
      have hq4:=HB4.out.size
      have hq2b:q2.length≤8000:=by omega
      simp only [Qe.cells,recCells] at N3
      clear hfil B4 HO3 HOE3 HLX3 HB3 HQ2 HTK
      go_wp2_with (first
       | (refine wpList_load_row rfl 108 _ rfl y rfl 108 _ (0,0) _ N3 Tryz.underlying108 rfl (by kernel_rfl) ?_)
       | (at_builtin; refine wpList_append_lies _ rfl (.tmp 36) (.tmp 38) 40 rfl w.heap.size 108 i0 entryZero 12 144 Tryz.underlying40 hi0 hz0 hz1 hz2 rfl (by decide) _ _ _ rfl HO4.out.own ⟨w3.heap.size,0,none⟩ 1 1 (Qe.cells ⟨at_,r,.slice ta r.txns.length tc,.slice pa r.pages.length pc⟩) rfl rfl (World.news_of_block (heap_alloc_new w3 _)) (by simp [Qe.cells,recCells,Value.oneCell']) (by omega) (by simp only [maxLen]; omega) (by omega) hq4 _ rfl ?_))
      intro gg cap w5 hown hgrow hat hlt5
      have HO5:=Lib.hid (HO4.out.pushed HLX4.out HXA.out hown hgrow (by rw [World.size_alloc]; exact hat))
      have HOE5:=Lib.hid (HOE4.out.grown hgrow HP.out.2 HP.out.1)
      have HB5:=Lib.hid (show Below w.heap.size w w5 from HB4.out.trans ⟨hgrow.os,hgrow.tape,hgrow.output,hgrow.size,fun b hb=>hgrow.block b (Nat.lt_of_lt_of_le hb hq4) fun e=>by have:=(HO4.out.own.lt b e.symm).1; omega⟩)
      have HP5:Hid ((∀ x ∈ qe,Apart (.slice (some ⟨gg,0,none⟩) (q2.length+1) cap) x)∧∀ b,(Value.slice (some ⟨gg,0,none⟩) (q2.length+1) cap).ownBlock=some b→(Value.slice (some ⟨ge,0,none⟩) qe.length vec).ownBlock≠some b):=by
       refine ⟨fun x hx b hb=>?_,fun b hb e=>?_⟩
       ·simp only [Value.ownBlock,Option.some.injEq] at hb
        subst hb
        rcases hat with hat | hat
        · exact HP.out.1 x hx _ hat
        ·have hl:=HOE4.out.lists x hx
         exact ⟨fun hr e=>by have:=hl.t.blt hr _ e; rw [World.size_alloc] at this; omega,fun hr e=>by have:=hl.p.blt hr _ e; rw [World.size_alloc] at this; omega⟩
       ·simp only [Value.ownBlock,Option.some.injEq] at hb e
        subst hb
        rcases hat with hat | hat
        · exact HP.out.2 _ hat (by simp [Value.ownBlock,e])
        ·have:=(HOE4.out.own.lt ge rfl).2
         rw [World.size_alloc] at this
         omega
      have HFQ5:Hid (FreshQ w.heap.size (q2++[⟨at_,r,.slice ta r.txns.length tc,.slice pa r.pages.length pc⟩])):=fun z hz=>by
       rcases List.mem_append.1 hz with hz | hz
       · exact HFQ2.out z hz
       · simp at hz; subst hz; exact HFX.out
      clear hown hgrow hat HO4 HOE4 HLX4 HB4
      go_wp2
      go_roundg (qe.length - (j+1))
      case measure=>have:=HGJ.out; omega
      case rel=>exact ⟨j+1,q2++[⟨at_,r,.slice ta r.txns.length tc,.slice pa r.pages.length pc⟩],by go_num,rfl,by omega,by simpa using HO5.out,HOE5.out,by rw [List.map_append]; exact HFIL.out,by simp; omega,HB5.out,HP5.out.1,HP5.out.2,HFQ5.out⟩
     ·have hfil:q2.map Qe.ent=q.map Qe.ent++((qe.take (j+1)).map Qe.ent).filter (fun x=>decide (from_≤x.1)):=by
       rw [HTK.out,HQ2.out,List.filter_append]
       simp [Qe.ent,hfa]
      have HFIL:=Lib.hid hfil
      clear hfil HQ2 HTK
      go_wp2
      go_roundg (qe.length - (j+1))
      case measure=>have:=HGJ.out; omega
      case rel=>exact ⟨j+1,q2,by go_num,rfl,by omega,HO3.out,HOE3.out,HFIL.out,by omega,HB3.out,HP.out.1,HP.out.2,HFQ2.out⟩
    ·obtain rfl:j=qe.length:=by omega
     have hall:q2.map Qe.ent++l.rest from_ (k+1)=l.scan from_:=by
      rw [← HQ.out,HSTEP.out,HES.out,hq2,List.take_length,List.append_assoc]
     have HALL:=Lib.hid hall
     have HO:=Lib.hid ho2
     have HB:=Lib.hid hB3
     have HFQ2:=Lib.hid hfq2
     clear hall ho2 hoe hq2 hB3 hp1 hp2 hfq2 hgj
     go_wp2
     go_roundg (l.end_ - (k+1))
     case measure=>have:=HGK.out; omega
     case rel=>exact ⟨k+1,q2,by go_num,rfl,by omega,by omega,by omega,HO.out,HALL.out,by omega,HB.out,HFQ2.out⟩
  ·have hdone:q.map Qe.ent=l.scan from_:=by rw [← HQ.out,Wl.rest_end l from_ k (by omega),List.append_nil]
   have HD:=Lib.hid hdone
   have hge:(l.end_:Int)≤k:=by omega
   clear hdone HQ
   go_wp2_with fail
   refine HE.out.mono ?_
   rintro e w1 ⟨rfl,n1,rfl⟩
   have HO2:=Lib.hid (HO.out.keep (drewN_below wr n1))
   have HB2:=Lib.hid (below2 HB.out (drewN_below wr n1))
   go_wp2
   go_ret
   exact ⟨_,q,rfl,HD.out,HO2.out,HB2.out,HFQ.out⟩
theorem tdiv_pos (x:Int) (h:0≤x):x.tdiv 128=x / 128:=Int.tdiv_eq_ediv_of_nonneg h
theorem tdiv_neg (x:Int) (h:x < 0):x.tdiv 128 = -((-x) / 128):=by
 have:=tdiv_pos (-x) (by omega)
 rw [Int.neg_tdiv] at this
 omega
theorem scan_any (h:IsLog w F g gd l) (from_:Int) (hw:(Lit.int .i64 from_).wf=true):Calls Tryz.prog 82 #[.pointer (some ⟨g,0,none⟩),.int .i64 from_] w (EntsOut w (l.scan from_)):=by
 have hr:-9223372036854775808≤from_∧from_≤9223372036854775807:=by simpa [Lit.wf,IntKind.min,IntKind.max,IntKind.signed,IntKind.bits] using hw
 have hd:from_.tdiv 128≤72057594037927936∧-72057594037927936≤from_.tdiv 128∧(0≤from_.tdiv 128→from_.tdiv 128*128 < from_+128)∧(0 < from_.tdiv 128→from_.tdiv 128*128≤from_):=by
  rcases Int.lt_or_le from_ 0 with hn | hn
  · rw [tdiv_neg _ hn]; omega
  · rw [tdiv_pos _ hn]; omega
 have hlm:=h.1.lm
 have hwr:IntKind.i64.wrap (from_.tdiv 128)=from_.tdiv 128:=IntWalk.i64_in _ (by omega)
 by_cases hc:from_.tdiv 128≤l.low
 · exact scan_from h from_ _ hwr l.low (.inl ⟨hc,rfl⟩) (Wl.rest_low l from_) (by omega)
 ·obtain ⟨s,hs⟩:=Int.eq_ofNat_of_zero_le (show 0≤from_.tdiv 128 by omega)
  refine scan_from h from_ _ hwr s (.inr ⟨by omega,by omega⟩) ?_ (by omega)
  rw [← Wl.rest_skip h.1 from_ s (.inl (by omega)) _ l.low rfl (Nat.le_refl _) (by omega),Wl.rest_low]
end
end Go.Proofs.YthkbcfhjmnpggaaGreat

namespace Go.Proofs.YthkbcfhjmnpggaaGreat
open Go.RowKit
section
variable {w:World} {F:Foot} {g gd:Nat} {l:Wl}
end
end Go.Proofs.YthkbcfhjmnpggaaGreat

namespace Go.Proofs.YthkbcfhjmnpggaaGreat
open Go.RowKit
set_option maxRecDepth 100000 in
set_option maxHeartbeats 1000000 in
theorem mul64_core (n:Int) (h0:0≤n) (h1:n < 4294967296) (ha:bits .and .u64 n 4294967295=n) (hs:n / 4294967296=0) (hc:bits .and .u64 1 4294967295=1) (hz:bits .and .u64 0 4294967295=0) (w:World) :
 Calls Tryz.prog 97 #[.int .u64 1,.int .u64 n] w fun e w'=>e=.returned (.tuple #[.int .u64 0,.int .u64 n])∧w=w':=by
 go_enter Tryz.func97,Tryz.ntmps97
 go_wp2
 go_ret2
 exact ⟨rfl,rfl⟩
theorem mul64_one (n:Nat) (h:n < 4294967296) (w:World) :
 Calls Tryz.prog 97 #[.int .u64 1,.int .u64 n] w fun e w'=>e=.returned (.tuple #[.int .u64 0,.int .u64 n])∧w=w':=by
 have and:∀ m:Nat,m < 4294967296→bits .and .u64 (m:Int) 4294967295=m:=fun m hm=>by
  have h1:=(bits_nat .u64 62 (by decide) (fun n h0 h1=>by rw [IntKind.wrap_u64]; omega) m 4294967295 (by omega) (by omega)).1
  rw [show (4294967295:Nat)=2 ^ 32 - 1 from rfl,Nat.and_two_pow_sub_one_eq_mod,Nat.mod_eq_of_lt (by omega)] at h1
  simpa using h1
 exact mul64_core n (by omega) (by omega) (and n h) (by omega) (and 1 (by omega)) (and 0 (by omega)) w
set_option maxRecDepth 100000 in
set_option maxHeartbeats 1000000 in
theorem mul_one (n:Nat) (h:n≤512) (w:World) :
 Calls Tryz.prog 66 #[.int .u64 1,.int .u64 n] w fun e w'=>e=.returned (.tuple #[.int .u64 0,.int .u64 n])∧w=w':=by
 have h0:(0:Int)≤n:=Int.natCast_nonneg _
 have H:=Lib.hid (fun W=>mul64_one n (by omega) W)
 go_enter Tryz.func66,Tryz.ntmps66
 go_wp2_with fail
 refine (H.out _).mono ?_
 rintro e w1 ⟨rfl,rfl⟩
 go_wp2
 go_ret2
 exact ⟨rfl,rfl⟩
def filledL (s:ByteArray) (n k:Nat):List Value:=List.replicate k (Value.string s)++List.replicate (n - k) (Value.string ⟨#[]⟩)
def filled (s:ByteArray) (n k:Nat):Array Value:=(filledL s n k).toArray
theorem filled_size (s:ByteArray) {n k:Nat} (h:k≤n):(filled s n k).size=n:=by simp [filled,filledL]; omega
theorem info_string:(Tryz.prog.info? 9).map (fun i=>(i.zero,i.size,i.bytes))=some (some (.string ⟨#[]⟩),1,16):=by kernel_rfl
theorem filled_copy (s:ByteArray) (n k m:Nat) (_h:k+m≤n):((filled s n k).toList.take k++List.replicate m (Value.string s)++(filled s n k).toList.drop (k+m)).toArray=filled s n (k+m):=by
 unfold filled filledL
 have e1:(List.replicate k (Value.string s)++List.replicate (n - k) (Value.string ⟨#[]⟩)).take k=List.replicate k (Value.string s):=by
  rw [List.take_append_of_le_length (by simp)]; simp
 have e2:(List.replicate k (Value.string s)++List.replicate (n - k) (Value.string ⟨#[]⟩)).drop (k+m)=List.replicate (n - (k+m)) (Value.string ⟨#[]⟩):=by
  rw [List.drop_append]
  simp
  omega
 simp only [e1,e2]
 rw [ ← List.replicate_append_replicate (n:=k) (m:=m)]
theorem addAt (b k j:Nat):(⟨b,k,none⟩:Addr).add j=⟨b,k+j,none⟩:=by unfold Addr.add; split <;> simp_all
set_option maxRecDepth 100000 in
set_option maxHeartbeats 4000000 in
theorem repeat_one (s:ByteArray) (x n:Nat) (w:World) (hx:w.cell? ⟨x,0,none⟩=some (.string s)) (h1:1≤n) (hn:n≤512) :
 Calls Tryz.prog 32 #[.slice (some ⟨x,0,none⟩) 1 1,.int .i64 n] w fun e w'=>∃ g,e=.returned (.slice (some ⟨g,0,none⟩) n n)∧Blk w' g 9 (filled s n n)∧w.heap.size≤g∧Below w.heap.size w w':=by
 obtain ⟨i,hi,hz,hs1,hs2⟩:=info_parts info_string
 have HM:=Lib.hid (fun W=>mul_one n hn W)
 have hlx:=World.block_lt_of_cell? w _ hx
 have hmk:∀ W:World,(Instr.makeSlice 62 (.int .i64 (n:Int)) (.int .i64 (n:Int))).run Tryz.prog W=.ok (.slice (some ⟨W.heap.size,0,none⟩) n n) (W.alloc (.cells (filled s n 0) 9)):=fun W=>by
  have h:=run_make (P:=Tryz.prog) W 62 9 i (.string ⟨#[]⟩) Tryz.underlying62 hi hz .i64 .i64 (n:Int) (n:Int) (by omega) (by omega) (by rw [hs2]; omega) (by omega)
  have e:madeCells (Value.string ⟨#[]⟩).cells (((n:Nat):Int).toNat*i.size)=filled s n 0:=by
   apply Array.ext'
   rw [hs1]
   simp only [Int.toNat_natCast,Nat.mul_one]
   rw [show (Value.string ⟨#[]⟩).cells=#[Value.string ⟨#[]⟩] from rfl,toList_madeCells_one]
   simp [filled,filledL]
  rw [e] at h
  simpa using h
 have b0:Blk (w.alloc (.cells (filled s n 0) 9)) w.heap.size 9 (filled s n 0):=Blk.new _ _ _
 have hB0:Below w.heap.size w (w.alloc (.cells (filled s n 0) 9)):=(Below.refl _ _).alloc (Nat.le_refl _) _
 have hx0:=(hB0.cell (p:=⟨x,0,none⟩) hlx).trans hx
 have hinf:(Tryz.prog.info? 9).map (·.size)=some 1:=by kernel_rfl
 have hcp:=run_copy_row (P:=Tryz.prog) _ 62 62 3 9 w.heap.size 0 n n ⟨x,0,none⟩ 1 1 (filled s n 0) 9 [.string s] Tryz.underlying62 hinf b0 (by simp only [List.length_singleton,Nat.min_def]; split <;> omega)
  (fun j v hj=>by
    match j,hj with
    | 0,hj=>simp at hj; subst hj; rw [addAt]; exact hx0) (by rw [filled_size s (Nat.zero_le _)]; simp; omega) (by simp [Value.oneCell'])
 have hfc:=filled_copy s n 0 1 (by omega)
 simp only [Nat.zero_add,List.replicate_one] at hfc
 simp only [List.length_singleton,Nat.zero_add] at hcp
 rw [hfc] at hcp
 have b1:=b0.setRow (filled s n 1)
 have hB1:=below_setRow hB0 (Nat.le_refl _) (filled s n 1)
 have HC:=fun (W:World) (k m:Nat) (hb:Blk W w.heap.size 9 (filled s n k)) (hm:m≤k) (j:Nat) (v:Value) (hj:(List.replicate m (Value.string s))[j]? = some v)=>(show W.cell? ((⟨w.heap.size,0,none⟩:Addr).add j)=some v from by
  rw [List.getElem?_replicate] at hj
  split at hj
  ·rename_i hjm
   rw [addAt,hb.cell,← hj]
   simp [filled,filledL,List.getElem?_append,show j < k by omega]
  · cases hj)
 have H1:=Lib.hid (show _∧_ from ⟨b1,hB1⟩)
 have HC':=Lib.hid HC
 clear HC hfc b0 hB0 hx0 b1 hB1 hx
 have h0:(0:Int)≤n:=Int.natCast_nonneg _
 have hgt:decide ((9223372036854775807:Int) < (n:Int))=false:=by simp; omega
 go_enter Tryz.func32,Tryz.ntmps32
 go_wp2_with fail
 refine (HM.out _).mono ?_
 rintro e w1 ⟨rfl,rfl⟩
 go_wp2_with fail
 go_loopw [8] (fun v wr=>∃ k:Nat,1≤k∧k≤n∧v=.int .i64 k∧Blk wr w.heap.size 9 (filled s n k)∧Below w.heap.size w wr) (fun v _=>n - (intOf v).toNat)
 case atStart=>exact ⟨1,Nat.le_refl _,h1,rfl,H1.out⟩
 case round =>
  obtain ⟨k,hk1,hkn,rfl,hb,hB⟩:=hrel
  clear hcp hmk
  by_cases hlt:k < n
  ·obtain ⟨m,hm⟩:∃ m,m=Nat.min k (n - k):=⟨_,rfl⟩
   have hm1:1≤m:=by rw [hm]; simp only [Nat.min_def]; split <;> omega
   have hkm:k+m≤n:=by rw [hm]; simp only [Nat.min_def]; split <;> omega
   have hmk:m≤k:=by rw [hm]; exact Nat.min_le_left _ _
   have HM:=Lib.hid hm
   have HB:=Lib.hid hb
   have HBL:=Lib.hid hB
   have HF:=Lib.hid (filled_copy s n k m hkm)
   have hkI:(k:Int) < n:=by omega
   have hne:¬ n=k:=by omega
   have hk0:(0:Int)≤k:=Int.natCast_nonneg _
   have hsub:((n:Int) - k).toNat=n - k:=by omega
   clear hm hb hB
   go_wp2_with fail
   refine' wp_region_free [0] 7 [.is (.int .i64 (k:Int)),.is _,.is _,.is _,.is _,.is _,.is _] (by kernel_rfl) (by kernel_rfl) (by kernel_rfl) (by kernel_rfl) (by kernel_rfl) rfl ⟨rfl,trivial⟩ (fun _ _ _ _ _ h=>h) ?main
   case main =>
    iterate 7
     refine obs_is (fun w2 hE2 _=>?_) ?_
     ·go_wp2
      exact post_is (Below.refl _ _)
     simp only [Act.put,sA,sB,sC]
    refine obs_end fun w3 hE3 _=>?_
    have hb:=HB.out.drew.keep hE3 HB.out.lt
    have hcp:=run_copy_row (P:=Tryz.prog) w3 62 62 3 9 w.heap.size k (n - k) (n - k) ⟨w.heap.size,0,none⟩ k n (filled s n k) 9 (List.replicate m (.string s)) Tryz.underlying62 hinf hb (by rw [List.length_replicate]; exact HM.out)
     (HC'.out w3 k m hb hmk) (by rw [filled_size s (by omega),List.length_replicate]; exact hkm) (fun v hv=>by rw [List.eq_of_mem_replicate hv]; rfl)
    rw [List.length_replicate,HF.out] at hcp
    have hb2:=Lib.hid (hb.setRow (filled s n (k+m)))
    have hB2:=Lib.hid (below_setRow (HBL.out.drew.trans (hE3.mono (by have:=HBL.out.size; exact this))) (Nat.le_refl _) (filled s n (k+m)))
    clear hb
    go_wp2
    go_roundw
    case rel=>exact ⟨k+m,by omega,hkm,by go_num,hb2.out,hB2.out⟩
    case measure=>simp [intOf]; omega
  ·obtain rfl:k=n:=by omega
   go_wp2
   go_ret
   exact ⟨_,rfl,hb,Nat.le_refl _,hB⟩
end Go.Proofs.YthkbcfhjmnpggaaGreat

namespace Go.Proofs.YthkbcfhjmnpggaaGreat
open Go.RowKit
theorem strsV_rep (s:ByteArray) (n:Nat):(filled s n n).toList=strsV (List.replicate n s):=by simp [filled,filledL,strsV]
theorem new_raw {w w1:World} {s n:Nat} (hs:Blk w1 s 9 (filled zero128 n n)) (hB:Below w.heap.size w w1) (hge:w.heap.size≤s) (h1:0 < n) (hn:n≤512) :
 IsDisk ((w1.alloc (.map #[] 0)).alloc (.cells (diskCells (.slice (some ⟨s,0,none⟩) n n) (.slice none 0 0) w1.heap.size false false 0) 89)) (fun b=>w.heap.size≤b∧b < w1.heap.size+2) (w1.heap.size+1) (Dk.new n) ∧
  Below w.heap.size w ((w1.alloc (.map #[] 0)).alloc (.cells (diskCells (.slice (some ⟨s,0,none⟩) n n) (.slice none 0 0) w1.heap.size false false 0) 89)):=by
 have hsz:=hB.size
 have e1:(w1.alloc (.map #[] 0)).heap.size=w1.heap.size+1:=by simp
 have hm:IsMap (w1.alloc (.map #[] 0)) w1.heap.size fun _=>none:=IsMap.made w1
 have hg:=Blk.new (w1.alloc (.map #[] 0)) 89 (diskCells (.slice (some ⟨s,0,none⟩) n n) (.slice none 0 0) w1.heap.size false false 0)
 rw [e1] at hg
 have hso:w1.ownsRow 0 9 1 (.slice (some ⟨s,0,none⟩) n n) n (strsV (List.replicate n zero128)) :=
  ⟨by simp [strsV],.inr ⟨s,n,filled zero128 n n,rfl,Nat.zero_le _,hs,Nat.le_refl _,by unfold maxLen; omega,by rw [filled_size _ (Nat.le_refl _)]; omega,by
    rw [strsV_rep]; exact List.take_of_length_le (by simp [strsV])⟩⟩
 refine ⟨⟨Dk.Ok.new h1 hn,_,_,w1.heap.size,⟨hg,?_,World.ownsRow_nil _ _ _ _,?_,⟨by omega,by omega⟩,⟨hsz,by omega⟩,fun b hb=>?_,fun b hb=>by simp [Value.ownBlock] at hb,fun b hb=>by simp; omega⟩⟩,((hB.alloc hsz _).alloc (by simp; omega) _)⟩
 ·have:=(hso.alloc (.map #[] 0)).alloc (.cells (diskCells (.slice (some ⟨s,0,none⟩) n n) (.slice none 0 0) w1.heap.size false false 0) 89)
  simpa [Dk.new] using this
 · exact hm.keep (Below.heap_alloc _ _ _ (by simp))
 ·simp only [Value.ownBlock,Option.some.injEq] at hb
  subst hb
  exact ⟨hge,by have:=hs.lt; omega⟩
theorem pos1 (n:Nat) (h:1≤n):decide ((n:Int) < 1)=false:=by simp; omega
theorem le512 (n:Nat) (h:n≤512):decide ((512:Int) < n)=false:=by simp; omega
set_option maxRecDepth 100000 in
set_option maxHeartbeats 4000000 in
theorem new_ok (n:Nat) (w:World) (h1:1≤n) (hn:n≤512) :
 Calls Tryz.prog 4 #[.int .i64 n] w fun e w'=>∃ g F,e=.returned (.tuple #[.pointer (some ⟨g,0,none⟩),.int .i64 0])∧IsDisk w' F g (Dk.new n)∧(∀ b,F b→w.heap.size≤b)∧Below w.heap.size w w':=by
 have H1:=pos1 n h1
 have H2:=le512 n hn
 have HR:=Lib.hid (fun x W (hx:World.cell? W ⟨x,0,none⟩=some (.string zero128))=>repeat_one zero128 x n W hx h1 hn)
 have HN:=Lib.hid (fun (w1:World) s (hs:Blk w1 s 9 (filled zero128 n n)) (hB:Below w.heap.size w w1) (hge:w.heap.size≤s)=>new_raw hs hB hge h1 hn)
 have hmm:=@run_makeMap Tryz.prog
 clear h1 hn
 go_enter Tryz.func4,Tryz.ntmps4
 go_wp2_with fail
 refine (zero_any _).mono ?_
 rintro e w1 ⟨rfl,hb1⟩
 go_wp2_with fail
 have hx:=(Blk.new w1 9 #[.string zero128]).cell 0
 refine (HR.out _ _ hx).mono ?_
 rintro e w2 ⟨s,rfl,hs,hge,hb2⟩
 have hB:Below w.heap.size w w2:=below2 (hb1.alloc hb1.size _) hb2
 have hge2:w.heap.size≤s:=Nat.le_trans (Nat.le_trans hb1.size (by simp)) hge
 obtain ⟨hd,hbf⟩:=HN.out _ _ hs hB hge2
 have HD:=Lib.hid hd
 have HB:=Lib.hid hbf
 clear hd hbf hx hs hge hB hb1 hb2
 go_wp2
 go_ret2
 exact ⟨_,_,rfl,HD.out,fun b hb=>hb.1,HB.out⟩
end Go.Proofs.YthkbcfhjmnpggaaGreat

namespace Go.Proofs.YthkbcfhjmnpggaaGreat
open Go.RowKit
theorem fit_iff (r:Rc):Fit r↔(r.before.size≤300∧r.after.size≤300∧r.txns.length≤50∧r.pages.length≤50):=⟨fun h=>⟨h.before,h.after,h.txns,h.pages⟩,fun h=>⟨h.1,h.2.1,h.2.2.1,h.2.2.2⟩⟩
set_option maxRecDepth 100000 in
set_option maxHeartbeats 4000000 in
theorem few_yes {w:World} {v:Value} {r:Rc} (hv:IsRec w v r) (hf:Fit r) :
 Calls Tryz.prog 37 #[v] w fun e w'=>e=.returned (.bool true)∧Below w.heap.size w w':=by
 obtain ⟨vt,vp,rfl,hl⟩:=hv
 obtain ⟨ta,tc,e⟩:=hl.t.form
 subst e
 obtain ⟨pa,pc,e⟩:=hl.p.form
 subst e
 obtain ⟨f1,f2,f3,f4⟩:=hf
 have g1:(r.before.size:Int)≤300:=by omega
 have g2:(r.after.size:Int)≤300:=by omega
 have g3:(r.txns.length:Int)≤50:=by omega
 have g4:(r.pages.length:Int)≤50:=by omega
 clear hl
 unfold recV recCells
 go_enter Tryz.func37,Tryz.ntmps37
 go_wp2
 go_ret
 exact ⟨rfl,(Below.refl _ _).alloc (Nat.le_refl _) _⟩
set_option maxRecDepth 100000 in
set_option maxHeartbeats 4000000 in
theorem few_no {w:World} {v:Value} {r:Rc} (hv:IsRec w v r) (hs:r.before.size≤maxLen∧r.after.size≤maxLen) (hf:¬ Fit r) :
 Calls Tryz.prog 37 #[v] w fun e w'=>e=.returned (.bool false)∧Below w.heap.size w w':=by
 obtain ⟨vt,vp,rfl,hl⟩:=hv
 obtain ⟨ta,tc,e⟩:=hl.t.form
 subst e
 obtain ⟨pa,pc,e⟩:=hl.p.form
 subst e
 rw [fit_iff] at hf
 have HF:=Lib.hid hf
 have h3:=hl.t.le
 have h4:=hl.p.le
 obtain ⟨h1,h2⟩:=hs
 unfold maxLen at h1 h2 h3 h4
 clear hl hf
 unfold recV recCells
 go_enter Tryz.func37,Tryz.ntmps37
 go_wp2
 all_goals first
  | (go_ret; exact ⟨rfl,(Below.refl _ _).alloc (Nat.le_refl _) _⟩)
  | (go_ret; have hff:=HF.out; refine ⟨?_,(Below.refl _ _).alloc (Nat.le_refl _) _⟩; show Ending.returned (.bool (decide _))=_; rw [decide_eq_false (by omega)])
end Go.Proofs.YthkbcfhjmnpggaaGreat

namespace Go.Proofs.YthkbcfhjmnpggaaGreat
open Go.RowKit
end Go.Proofs.YthkbcfhjmnpggaaGreat

namespace Go.Proofs.YthkbcfhjmnpggaaGreat
open Go.RowKit
noncomputable def Wl.app (l:Wl) (r:Rc):Nat × Nat × Wl:=open Classical in if May r then (l.putAt r,l.putE r,l.put r) else (0,1,l)
theorem Wl.app_may {l:Wl} {r:Rc} (h:May r):l.app r=(l.putAt r,l.putE r,l.put r):=by unfold Wl.app; rw [if_pos h]
theorem Wl.app_not {l:Wl} {r:Rc} (h:¬ May r):l.app r=(0,1,l):=by unfold Wl.app; rw [if_neg h]
theorem append_may {w:World} {F:Foot} {g gd:Nat} {l:Wl} {v:Value} {r:Rc} (h:IsLog w F g gd l) (hv:IsRec w v r) (hm:May r) :
 Calls Tryz.prog 11 #[.pointer (some ⟨g,0,none⟩),v] w (AppOut w F g gd (l.putAt r) (l.putE r) (l.put r)):=by
 unfold Wl.putE
 by_cases hj:l.joins r
 · rw [if_pos hj]; exact append_join h hv hm hj
 ·rw [if_neg hj]
  by_cases hr:l.secs.length < l.size
  ·rw [if_pos hr]
   by_cases hne:l.end_=l.first
   · exact append_new1 h hv hm hj hne hr
   · exact append_new2 h hv hm hj hne hr
  ·rw [if_neg hr]
   by_cases hne:l.end_=l.first
   · exact append_full1 h hv hm hj hne hr
   · exact append_full2 h hv hm hj hne hr
theorem append_any {w:World} {F:Foot} {g gd:Nat} {l:Wl} {v:Value} {r:Rc} (h:IsLog w F g gd l) (hv:IsRec w v r) (hf:Fit r) :
 Calls Tryz.prog 11 #[.pointer (some ⟨g,0,none⟩),v] w (AppOut w F g gd (l.app r).1 (l.app r).2.1 (l.app r).2.2):=by
 by_cases hm:May r
 · rw [Wl.app_may hm]; exact append_may h hv hm
 · rw [Wl.app_not hm]; exact append_bad h hv hf hm
structure LiveL (w0 w:World) (FD FL:Foot) (g gd:Nat) (D:Dk) (l:Wl):Prop where
 sys:Sys w FD FL g gd D l
 newD:∀ b,FD b→w0.heap.size≤b
 newL:∀ b,FL b→w0.heap.size≤b
 below:Below w0.heap.size w0 w
namespace LiveL
variable {w0 w w':World} {FD FL FD' FL':Foot} {g gd:Nat} {D D':Dk} {l l':Wl}
theorem new (h:LiveL w0 w FD FL g gd D l):∀ b,Both FD FL b→w0.heap.size≤b:=fun b hb=>hb.elim (h.newD b) (h.newL b)
theorem more (h:LiveL w0 w FD FL g gd D l) (hb:Below w.heap.size w w'):LiveL w0 w' FD FL g gd D l:=⟨h.sys.more hb,h.newD,h.newL,h.below.trans (hb.mono h.below.size)⟩
theorem step (h:LiveL w0 w FD FL g gd D l) (hs:Sys w' FD' FL' g gd D' l') (st:Step (Both FD FL) (Both FD' FL') w w'):LiveL w0 w' FD' FL' g gd D' l' :=
 ⟨hs,fun b hb=>st.from_ h.new h.below.size b (.inl hb),fun b hb=>st.from_ h.new h.below.size b (.inr hb),st.belowB h.new h.below h.below.size⟩
theorem only (h:LiveL w0 w FD FL g gd D l) {S:Nat→Prop} (hb:Only S w w') (hS:∀ b,Both FD FL b→¬ S b) (hn:∀ b,S b→w0.heap.size≤b):LiveL w0 w' FD FL g gd D l :=
 ⟨⟨h.sys.disk.keep (fun b hF=>hb.block b (h.sys.disk.lt b hF) (hS b (.inl hF))) hb.size,h.sys.log.only hb fun b hF=>hS b (.inr hF),h.sys.apart⟩,h.newD,h.newL,hb.below h.below h.below.size hn⟩
theorem append {v:Value} {r:Rc} (h:LiveL w0 w FD FL g gd D l) (hv:IsRec w v r) (hf:Fit r) :
 Calls Tryz.prog 11 #[.pointer (some ⟨g,0,none⟩),v] w fun e w'=>e=.returned (.tuple #[.int .i64 (l.app r).1,.int .i64 (l.app r).2.1])∧∃ FL',LiveL w0 w' FD FL' g gd D (l.app r).2.2∧Step (Both FD FL) (Both FD FL') w w' :=
 (append_any h.sys.log hv hf).mono fun _ _ ⟨he,F',hl,hs⟩=>⟨he,F',h.step (h.sys.onLog hl hs).1 (h.sys.onLog hl hs).2,(h.sys.onLog hl hs).2⟩
theorem flush (h:LiveL w0 w FD FL g gd D l) (hep:l.epoch < 4294967296) (hw:D.waits.length≤1000000) :
 Calls Tryz.prog 13 #[.pointer (some ⟨g,0,none⟩)] w fun e w'=>e=.returned (.int .i64 (l.flush D).2.2)∧∃ FD',LiveL w0 w' FD' FL g gd (l.flush D).1 (l.flush D).2.1∧Step (Both FD FL) (Both FD' FL) w w' :=
 (flush_any h.sys hep hw).mono fun _ _ ⟨he,FD',hs,st⟩=>⟨he,FD',h.step hs st,st⟩
theorem crash (h:LiveL w0 w FD FL g gd D l) (v:Value) (p:List UInt8) (hr:Reads w v (byteVs p)) (hv:p≠[]→∀ b,v.ownBlock=some b→b < w0.heap.size) :
 Calls Tryz.prog 20 #[.pointer (some ⟨gd,0,none⟩),v] w fun e w'=>e=.returned (.tuple #[])∧LiveL w0 w' FD FL g gd (D.crash p) l∧Step (Both FD FL) (Both FD FL) w w' :=
 (crash_any h.sys.disk v p hr fun hp b hb hF=>by have:=hv hp b hb; have:=h.newD b hF; omega).mono fun _ _ ⟨he,hd,st⟩=>⟨he,h.step (h.sys.onDisk hd st).1 (h.sys.onDisk hd st).2,(h.sys.onDisk hd st).2⟩
theorem arm (h:LiveL w0 w FD FL g gd D l) (k:Int) (hk:k < 9223372036854775808) :
 Calls Tryz.prog 19 #[.pointer (some ⟨gd,0,none⟩),.int .i64 k] w fun e w'=>e=.returned (.tuple #[])∧LiveL w0 w' FD FL g gd (D.arm k) l∧Step (Both FD FL) (Both FD FL) w w' :=
 (arm_any h.sys.disk k hk).mono fun _ _ ⟨he,hd,st⟩=>⟨he,h.step (h.sys.onDisk hd st).1 (h.sys.onDisk hd st).2,(h.sys.onDisk hd st).2⟩
theorem open_ (h:LiveL w0 w FD FL g gd D l) (hgone:D.gone=false) (base n low:Nat) (h8:8≤n) (h64:n≤64) (hb:base+n≤D.safe.length) (hl:1≤low) (hlm:low≤16777216) :
 Calls Tryz.prog 22 #[.pointer (some ⟨gd,0,none⟩),.int .i64 base,.int .i64 n,.int .i64 low] w fun e w'=>∃ g2 F,e=.returned (.tuple #[.pointer (some ⟨g2,0,none⟩),.int .i64 0])∧LiveL w0 w' FD F g2 gd D (Wl.opened D base n low)∧(∀ b,F b→w.heap.size≤b)∧Below w.heap.size w w' :=
 (open_ok h.sys.disk hgone base n low h8 h64 hb hl hlm).mono fun _ _ ⟨g2,F,he,hl,hF,hbel⟩=>⟨g2,F,he,⟨⟨h.sys.disk.below hbel,hl,fun b hb hl=>by have:=hF b hl; have:=h.sys.disk.lt b hb; omega⟩,h.newD,fun b hb=>Nat.le_trans h.below.size (hF b hb),h.below.trans (hbel.mono h.below.size)⟩,hF,hbel⟩
theorem make {gd:Nat} (h:IsDisk w FD gd D) (hn:∀ b,FD b→w0.heap.size≤b) (hb0:Below w0.heap.size w0 w) (base n:Nat) (h8:8≤n) (h64:n≤64) (hb:base+n≤D.safe.length) :
 Calls Tryz.prog 6 #[.pointer (some ⟨gd,0,none⟩),.int .i64 base,.int .i64 n] w fun e w'=>∃ g F,e=.returned (.tuple #[.pointer (some ⟨g,0,none⟩),.int .i64 0])∧LiveL w0 w' FD F g gd D (Wl.new base n) :=
 (logNew_ok h base n h8 h64 hb).mono fun _ _ ⟨g,he,hl,hg,hbel⟩=>⟨g,_,he,⟨h.below hbel,hl,fun b hb e=>by subst e; have:=h.lt b hb; omega⟩,hn,fun b e=>by subst e; exact Nat.le_trans hb0.size hg,hb0.trans (hbel.mono hb0.size)⟩
theorem appendAs {v:Value} {r:Rc} (h:LiveL w0 w FD FL g gd D l) (hv:IsRec w v r) (hf:Fit r) {a er:Nat} {l':Wl} (ha:l.app r=(a,er,l')) (x y:Int) (hx:(a:Int)=x) (hy:(er:Int)=y) :
 Calls Tryz.prog 11 #[.pointer (some ⟨g,0,none⟩),v] w fun e w'=>e=.returned (.tuple #[.int .i64 x,.int .i64 y])∧∃ FL',LiveL w0 w' FD FL' g gd D l'∧Step (Both FD FL) (Both FD FL') w w':=by
 have:=h.append hv hf
 rw [ha] at this
 subst hx hy
 exact this
theorem flushAs (h:LiveL w0 w FD FL g gd D l) (hep:l.epoch < 4294967296) (hw:D.waits.length≤1000000) {D':Dk} {l':Wl} (hD:(l.flush D).1=D') (hl:(l.flush D).2.1=l') (y:Int) (hy:((l.flush D).2.2:Int)=y) :
 Calls Tryz.prog 13 #[.pointer (some ⟨g,0,none⟩)] w fun e w'=>e=.returned (.int .i64 y)∧∃ FD',LiveL w0 w' FD' FL g gd D' l'∧Step (Both FD FL) (Both FD' FL) w w':=by
 subst hD hl hy
 exact h.flush hep hw
end LiveL
end Go.Proofs.YthkbcfhjmnpggaaGreat

namespace Go.Proofs.YthkbcfhjmnpggaaGreat
open Go.RowKit
namespace Calm
variable {D:Dk} {l:Wl} {n E:Nat}
end Calm
theorem Wl.allFrom_lt:∀ (k:Nat) (s:List (List Rc)),(∀ rs ∈ s,(∀ r ∈ rs,May r)∧(body rs).length≤112)→∀ x ∈ Wl.allFrom k s,x.1 < (((k+s.length)*128:Nat):Int)
 | _,[],_,x,h=>by simp [Wl.allFrom] at h
 | k,rs::s,hs,x,h=>by
   rcases List.mem_append.1 h with h | h
   ·have:=entsOf_ge _ rs (hs rs (by simp)).1 x h
    have h2:=(hs rs (by simp)).2
    unfold body at h2
    simp only [List.length_cons]
    omega
   ·have:=Wl.allFrom_lt (k+1) s (fun q hq=>hs q (by simp [hq])) x h
    simp only [List.length_cons]
    omega
end Go.Proofs.YthkbcfhjmnpggaaGreat

namespace Go.Proofs.YthkbcfhjmnpggaaGreat
open Go.RowKit
namespace StandsL
variable {D:Dk} {l:Wl}
end StandsL
end Go.Proofs.YthkbcfhjmnpggaaGreat

namespace Go.Proofs.YthkbcfhjmnpggaaGreat
open Go.RowKit
namespace StandsL
variable {D:Dk} {l:Wl}
def _root_.Go.Proofs.YthkbcfhjmnpggaaGreat.Wl.cutTo (l:Wl) (z:Nat):Wl:={ l with low:=z,secs:=l.secs.drop (z - l.low) }
end StandsL
end Go.Proofs.YthkbcfhjmnpggaaGreat

namespace Go.Proofs.YthkbcfhjmnpggaaGreat
open Go.RowKit
def Up (l:List Ent):Prop:=l.Pairwise fun x y=>x.1 < y.1
theorem entsOf_up:∀ (a:Int) (rs:List Rc),(∀ r ∈ rs,May r)→Up (entsOf a rs)
 | _,[],_=>List.Pairwise.nil
 | a,r::rs,hm=>by
   have hp:=lay_pos (hm r (by simp))
   refine List.pairwise_cons.2 ⟨fun x hx=>?_,entsOf_up _ rs fun q hq=>hm q (by simp [hq])⟩
   have:=(entsOf_ge _ rs (fun q hq=>hm q (by simp [hq])) x hx).1
   show a < x.1
   omega
theorem Wl.allFrom_low:∀ (k:Nat) (s:List (List Rc)),(∀ rs ∈ s,∀ r ∈ rs,May r)→∀ x ∈ Wl.allFrom k s,((k*128:Nat):Int)≤x.1
 | _,[],_,x,h=>by simp [Wl.allFrom] at h
 | k,rs::s,hs,x,h=>by
   rcases List.mem_append.1 h with h | h
   · exact (entsOf_ge _ rs (hs rs (by simp)) x h).1
   ·have:=Wl.allFrom_low (k+1) s (fun q hq=>hs q (by simp [hq])) x h
    omega
theorem Wl.allFrom_up:∀ (k:Nat) (s:List (List Rc)),(∀ rs ∈ s,(∀ r ∈ rs,May r)∧(body rs).length≤112)→Up (Wl.allFrom k s)
 | _,[],_=>List.Pairwise.nil
 | k,rs::s,hs=>by
   refine List.pairwise_append.2 ⟨entsOf_up _ rs (hs rs (by simp)).1,Wl.allFrom_up (k+1) s (fun q hq=>hs q (by simp [hq])),fun x hx y hy=>?_⟩
   have h1:=(entsOf_ge _ rs (hs rs (by simp)).1 x hx).2
   have h2:=(hs rs (by simp)).2
   have h3:=Wl.allFrom_low (k+1) s (fun q hq=>(hs q (by simp [hq])).1) y hy
   unfold body at h2
   omega
namespace Wl
variable {l:Wl}
theorem secs_ok (ok:l.Ok):∀ rs ∈ l.secs,(∀ r ∈ rs,May r)∧(body rs).length≤112:=fun rs h=>(ok.sec rs h).2
theorem all_up (ok:l.Ok):Up l.all:=allFrom_up _ _ (secs_ok ok)
theorem all_low (ok:l.Ok):∀ x ∈ l.all,((l.low*128:Nat):Int)≤x.1:=allFrom_low _ _ fun rs h=>(secs_ok ok rs h).1
theorem all_end (ok:l.Ok):∀ x ∈ l.all,x.1 < ((l.end_*128:Nat):Int):=allFrom_lt _ _ (secs_ok ok)
end Wl
namespace Told
variable {H:List Ent} {l:Wl}
end Told
structure Tp where
 upto:Nat
 l:List Ent
namespace Tp
def new:Tp:=⟨1,[]⟩
def behind (t:Tp) (l:Wl):List Ent:=l.scan ((t.upto*128:Nat):Int)
def fresh (t:Tp) (l:Wl):List Ent:=(t.behind l).filter fun x=>decide (x.1.tdiv 128 < (l.first:Int))
def err (t:Tp) (l:Wl):Nat:=if t.upto < l.low then 11 else 0
def addN (t:Tp) (l:Wl):Nat:=if t.upto < l.low then 0 else (t.fresh l).length
def add (t:Tp) (l:Wl):Tp:=if t.upto < l.low then t else ⟨max t.upto l.first,t.l++t.fresh l⟩
def whole (t:Tp) (l:Wl):List Ent:=if t.upto < l.low then [] else t.l++t.behind l
variable {t:Tp} {l:Wl}
variable {H:List Ent}
theorem add_l (t:Tp) (l:Wl):∃ m,(t.add l).l=t.l++m∧m.length=t.addN l:=by
 unfold Tp.add addN
 split
 · exact ⟨[],by simp,rfl⟩
 · exact ⟨t.fresh l,rfl,rfl⟩
end Tp
end Go.Proofs.YthkbcfhjmnpggaaGreat

namespace Go.Proofs.YthkbcfhjmnpggaaGreat
open Go.RowKit
namespace Aw5
def R:Rc:=.begin5
def l0:Wl:=Wl.new 1 8
def l1:Wl:={ l0 with secs:=[[R]] }
def l2:Wl:={ l0 with secs:=[[R,R]] }
def l3:Wl:={ l2 with first:=2 }
def D0:Dk:=Dk.new 10
def D1:Dk:=(l2.flush D0).1
def D2:Dk:=D1.crash []
noncomputable def m:Wl:=Wl.opened D2 1 8 1
end Aw5
end Go.Proofs.YthkbcfhjmnpggaaGreat

namespace Go.Proofs.YthkbcfhjmnpggaaGreat
open Go.RowKit
end Go.Proofs.YthkbcfhjmnpggaaGreat
