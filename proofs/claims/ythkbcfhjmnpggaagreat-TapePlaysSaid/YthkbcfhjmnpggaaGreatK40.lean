/- Texts that belong together, joined: RpJ, TpB. -/
import Derived.Test.YthkbcfhjmnpggaaGreatK28
import Derived.Test.YthkbcfhjmnpggaaGreatK39
import Derived.Test.YthkbcfhjmnpggaaGreatK18
import Derived.Test.YthkbcfhjmnpggaaGreatK20
namespace Go.Proofs.YthkbcfhjmnpggaaGreat
open Go.RowKit
structure SysR (w:World) (FD FL:Foot) (g gd:Nat) (D:Dk) (l:Wl):Prop where
 disk:IsRef w FD gd D
 dok:D.Ok
 log:IsRL w FL g gd l
 apart:∀ b,FD b→¬ FL b
namespace SysR
variable {w w':World} {FD FD' FL FL':Foot} {g gd:Nat} {D D':Dk} {l l':Wl}
theorem more (h:SysR w FD FL g gd D l) (hb:Below w.heap.size w w'):SysR w' FD FL g gd D l:=⟨h.disk.below hb,h.dok,h.log.below hb,h.apart⟩
theorem onDisk (h:SysR w FD FL g gd D l) (hd:IsRef w' FD' gd D') (ho:D'.Ok) (hs:Step FD FD' w w'):SysR w' FD' FL g gd D' l∧Step (Both FD FL) (Both FD' FL) w w':=by
 refine ⟨⟨hd,ho,h.log.keep (fun b hb=>hs.block b (h.log.lt b hb) fun e=>h.apart b e hb) hs.size,fun b hb hl=>?_⟩,⟨hs.os,hs.tape,hs.output,hs.size,fun b hb hf=>hs.block b hb fun e=>hf (.inl e),fun b hb=>?_⟩⟩
 ·rcases hs.foot b hb with hb | hb
  · exact h.apart b hb hl
  · have:=h.log.lt b hl; omega
 ·rcases hb with hb | hb
  · exact (hs.foot b hb).elim (fun e=>.inl (.inl e)) .inr
  · exact .inl (.inr hb)
theorem onLog (h:SysR w FD FL g gd D l) (hd:IsRL w' FL' g gd l') (hs:Step FL FL' w w'):SysR w' FD FL' g gd D l'∧Step (Both FD FL) (Both FD FL') w w':=by
 refine ⟨⟨h.disk.keep (fun b hb=>hs.block b (h.disk.lt b hb) (h.apart b hb)) hs.size,h.dok,hd,fun b hb hl=>?_⟩,⟨hs.os,hs.tape,hs.output,hs.size,fun b hb hf=>hs.block b hb fun e=>hf (.inr e),fun b hb=>?_⟩⟩
 ·rcases hs.foot b hl with hl | hl
  · exact h.apart b hb hl
  · have:=h.disk.lt b hb; omega
 ·rcases hb with hb | hb
  · exact .inl (.inl hb)
  · exact (hs.foot b hb).elim (fun e=>.inl (.inr e)) .inr
end SysR
def FlushR (w:World) (FD FL:Foot) (g gd:Nat) (x:Dk × Wl × Nat) (e:Ending) (w':World):Prop :=
 e=.returned (.int .i64 x.2.2)∧∃ FD' FL',SysR w' FD' FL' g gd x.1 x.2.1∧Step (Both FD FL) (Both FD' FL') w w'
section
variable {w:World} {FD FL:Foot} {g gd:Nat} {D:Dk} {l:Wl}
set_option maxRecDepth 100000 in
set_option maxHeartbeats 8000000 in
theorem rlFlush_idle (h:SysR w FD FL g gd D l) (he:l.first=l.end_) :
 Calls Tryz.prog 14 #[.pointer (some ⟨g,0,none⟩)] w (FlushR w FD FL g gd (D,l,0)):=by
 have HS:=Lib.hid h
 obtain ⟨ok,vb,r⟩:=h.log
 rw [Wl.B_idle he,show (l.secs.map bodyS++[(⟨#[]⟩:ByteArray)]).length=l.secs.length+1 by simp] at r
 obtain ⟨g2,cap,rfl,hcap,hcm⟩:=own_form r.rows (by omega)
 have hfl:(l.first:Int) - (l.low:Int)=(l.secs.length:Int):=by rw [he]; unfold Wl.end_; omega
 have C:Hid (∀ W,Below w.heap.size w W→W.cell? ⟨g,3,none⟩=some (.int .i64 l.low)∧W.cell? ⟨g,4,none⟩=some (.int .i64 l.first)∧W.cell? ⟨g,6,none⟩=some (.slice (some ⟨g2,0,none⟩) (l.secs.length+1) cap)∧W.cell? ⟨g2,l.secs.length,none⟩=some (.string ⟨#[]⟩)):=fun W hW=>by
  have r:=r.below hW
  obtain ⟨_,_,_,c3,c4,_,c6⟩:=r.cells
  refine ⟨c3,c4,c6,?_⟩
  have cy:=r.rows.cellAt l.secs.length (by omega)
  have e:=strs_last (l.secs.map bodyS) ⟨#[]⟩
  rw [List.length_map] at e
  rw [e] at cy
  simpa using cy
 have h1:(l.low:Int)≤2147483647:=by have:=ok.lm; omega
 have h2:(l.first:Int)≤2147483711:=by have:=ok.lm; have:=ok.len; have:=ok.s64; rw [he]; unfold Wl.end_; omega
 have h3:(l.secs.length:Int)≤64:=by have:=ok.len; have:=ok.s64; omega
 have h4:(l.secs.length:Int) < (l.secs.length:Int)+1:=by omega
 have HB0:=Lib.hid (Below.refl w.heap.size w)
 clear h he r hcap hcm ok
 generalize l.secs.length=y at *
 go_enter Tryz.func14,Tryz.ntmps14
 go_upto_region 1 with fail
 refine' wp_region_conf 10 (.is _::.is _::.is _::.is _::.is _::.is _::.is _::.is _::.is _::.is _::[]) (by kernel_rfl) (by kernel_rfl) (by kernel_rfl) (by kernel_rfl) rfl ?main
 case main =>
 iterate 10
  apply obs_step
  · rfl
  ·intro w4 hE4 hk4
   have hb4:=below2 HB0.out ((Below.refl w.heap.size w).drew.trans hE4)
   obtain ⟨d3,d4,d6,dy⟩:=C.out w4 hb4
   clear hk4 hE4
   go_wp2_with (fail)
   first
   | (refine post_eq ?_ (Below.refl _ _)
      simp only [Act.put,sA,sB,sC]
      try rfl
      done)
   | (refine post_eq ?_ (drewN_below _ _)
      simp only [Act.put,sA,sB,sC]
      try rfl
      done)
   | (refine post_eq ?_ hb5
      simp only [Act.put,sA,sB,sC]
      try rfl
      done)
  ·simp only [Act.put,sA,sB,sC]
   rfl
 refine obs_end fun w5 hE9 _=>?_
 have hb9:Below w.heap.size w w5:=(Below.refl w.heap.size w).drew.trans hE9
 clear hE9
 have HB5:=Lib.hid hb9
 clear hb9
 change wpList _ _ _ _ _ _
 obtain ⟨c3,c4,c6,cy⟩:=C.out _ HB5.out
 go_wp2
 go_ret
 exact ⟨rfl,FD,FL,HS.out.more HB5.out,.ofBelow HB5.out⟩
theorem flush_split {l:Wl} (ok:l.Ok) (hne:¬ l.first=l.end_):∃ m,l.secs.length=m+1∧l.end_=l.low+m+1∧m≤63:=by
 have:=ok.fe
 have:=ok.fl
 have:=ok.len
 have:=ok.s64
 unfold Wl.end_ at *
 exact ⟨l.secs.length - 1,by omega,by omega,by omega⟩
theorem sec_pos {l:Wl} (ok:l.Ok) {j:Nat} (hj:j < l.secs.length):0 < (bodyS (l.secs.getD j [])).size∧(bodyS (l.secs.getD j [])).size≤112:=by
 have hmem:l.secs.getD j [] ∈ l.secs:=by
  rw [List.getD_eq_getElem?_getD,List.getElem?_eq_getElem hj]
  exact List.getElem_mem hj
 have h:=ok.sec _ hmem
 rw [bodyS_size]
 exact ⟨body_pos h.2.1 h.1,h.2.2⟩
theorem sec_cell {l:Wl} {n cap g2:Nat} (r:RLR w FL g gd l (.slice (some ⟨g2,0,none⟩) n cap) n (l.secs.map bodyS)) (hn:l.secs.length=n) {j:Nat} (hj:j < n):w.cell? ⟨g2,j,none⟩=some (.string (bodyS (l.secs.getD j []))):=by
 rw [r.rows.cellAt j (by omega)]
 simp only [strsV,List.map_map,List.getElem?_map]
 rw [List.getD_eq_getElem?_getD,List.getElem?_eq_getElem (by omega)]
 rfl
theorem place_int (l:Wl) (k:Nat):((l.place k:Nat):Int)=(l.base:Int)+(k:Int) % (l.size:Int):=by unfold Wl.place; rw [Int.natCast_add,Int.natCast_emod]
set_option maxRecDepth 100000 in
set_option maxHeartbeats 32000000 in
theorem rlFlush_go (h:SysR w FD FL g gd D l) (hne:¬ l.first=l.end_) (hep:l.epoch < 4294967296) (hw:D.waits.length≤1000000) :
 Calls Tryz.prog 14 #[.pointer (some ⟨g,0,none⟩)] w (FlushR w FD FL g gd (l.flush D)):=by
 have hfl:l.flush D=if (l.writes D l.first (l.end_ - l.first)).2≠0 then ((l.writes D l.first (l.end_ - l.first)).1,l,(l.writes D l.first (l.end_ - l.first)).2) else if (l.writes D l.first (l.end_ - l.first)).1.syncE≠0 then ((l.writes D l.first (l.end_ - l.first)).1.sync,l,(l.writes D l.first (l.end_ - l.first)).1.syncE) else ((l.writes D l.first (l.end_ - l.first)).1.sync,{ l with first:=l.end_ },0):=by
  unfold Wl.flush; rw [if_neg fun e=>hne e.symm]
 have HFL:=Lib.hid hfl
 have HS:=Lib.hid h
 obtain ⟨ok,vb,r⟩:=h.log
 have OK:=Lib.hid ok
 obtain ⟨m,hm1,hm2,hm63⟩:=flush_split ok hne
 have HM:=Lib.hid (And.intro hm1 hm2)
 have HM63:=Lib.hid hm63
 have hBl:l.B=l.secs.map bodyS:=Wl.B_open hne
 have HB:=Lib.hid hBl
 -- the log's blocks, in any world that it stands in
 have LOG:Hid (∀ W FD1 D1,SysR W FD1 FL g gd D1 l→∃ g2 cap,RLR W FL g gd l (.slice (some ⟨g2,0,none⟩) (m+1) cap) (m+1) (l.secs.map bodyS)):=fun W FD1 D1 hS=>by
  obtain ⟨_,vb,r⟩:=hS.log
  rw [hBl,List.length_map,hm1] at r
  obtain ⟨g2,cap,rfl,_,_⟩:=own_form r.rows (by omega)
  exact ⟨g2,cap,r⟩
 have hf0:=ok.fl
 have hfe:l.first < l.end_:=by have:=ok.fe; omega
 have OPN:Hid (∀ W FD1 D1,SysR W FD1 FL g gd D1 l→Calls Tryz.prog 42 #[.pointer (some ⟨g,0,none⟩)] W (Peeks W (.int .i64 ((l.low:Int)+m)))):=fun W FD1 D1 hS=>by
  obtain ⟨g2,cap,r⟩:=LOG.out W FD1 D1 hS
  have:=rlOpen_any r ok.lm (by omega)
  rw [Int.natCast_add] at this
  exact this
 have PK:Hid (∀ k W,l.low≤k→k < l.end_→Calls Tryz.prog 47 #[.agg #[.int .u32 (l.epoch:Nat),.int .u32 (k:Nat),.string (bodyS (l.secs.getD (k - l.low) []))]] W fun e w'=>e=.returned (.string (l.sector k))∧Below W.heap.size W w'):=fun k W h1 h2 =>
  refPack_any l.epoch k (bodyS (l.secs.getD (k - l.low) [])) W hep (by have:=ok.lm; omega) (sec_pos ok (by omega)).2
 have BS:Hid (∀ k,l.low≤k→k < l.end_→0 < (bodyS (l.secs.getD (k - l.low) [])).size):=fun k h1 h2=>(sec_pos ok (by omega)).1
 have hlow:(l.low:Int)≤2147483647:=by have:=ok.lm; omega
 have hbase:(l.base:Int)≤512:=by have:=ok.b0; omega
 have hsz:(l.size:Int)≤64:=by have:=ok.s64; omega
 have hsz8:(8:Int)≤l.size:=by have:=ok.s8; omega
 have hmI:(m:Int)≤63:=by omega
 have u1:IntKind.u32.wrap (l.epoch:Int)=l.epoch:=by rw [IntKind.wrap_u32]; omega
 have hend31:l.end_≤2147483711:=by have:=ok.lm; omega
 -- the first one
 obtain ⟨g2,cap,rr⟩:=LOG.out w FD D h
 have C0:Hid (∀ W,Below w.heap.size w W→W.cell? ⟨g,3,none⟩=some (.int .i64 l.low)∧W.cell? ⟨g,4,none⟩=some (.int .i64 l.first)∧W.cell? ⟨g,6,none⟩=some (.slice (some ⟨g2,0,none⟩) (m+1) cap)∧W.cell? ⟨g2,l.first - l.low,none⟩=some (.string (bodyS (l.secs.getD (l.first - l.low) [])))):=fun W hW =>
  have r:=rr.below hW
  ⟨r.cells.2.2.2.1,r.cells.2.2.2.2.1,r.cells.2.2.2.2.2.2,sec_cell r hm1 (by omega)⟩
 have hb1:=toList_pos (BS.out l.first hf0 hfe)
 have hidx:(l.first:Int) - (l.low:Int) < (m:Int)+1:=by omega
 have hidx0:(0:Int)≤(l.first:Int) - (l.low:Int):=by omega
 have htn:((l.first:Int) - (l.low:Int)).toNat=l.first - l.low:=by omega
 have hfI:(l.first:Int)≤2147483711:=by omega
 have HB0:=Lib.hid (Below.refl w.heap.size w)
 have HF0:=Lib.hid hf0
 have HFE:=Lib.hid hfe
 have HE31:=Lib.hid hend31
 have HX64:Hid (l.end_≤l.first+64):=by show _≤_; omega
 clear hfl r ok h hne hm1 hm2 hm63 hBl rr hf0 hfe hep hend31
 generalize bodyS (l.secs.getD (l.first - l.low) [])=b0 at *
 go_enter Tryz.func14,Tryz.ntmps14
 go_upto_region 1 with fail
 refine' wp_region_conf 10 (.is _::.is _::.is _::.is _::.is _::.is _::.is _::.is _::.is _::.is _::[]) (by kernel_rfl) (by kernel_rfl) (by kernel_rfl) (by kernel_rfl) rfl ?main
 case main =>
 iterate 10
  apply obs_step
  · rfl
  ·intro w4 hE4 hk4
   have hb4:=below2 HB0.out ((Below.refl w.heap.size w).drew.trans hE4)
   obtain ⟨d3,d4,d6,dy⟩:=C0.out w4 hb4
   clear hk4 hE4
   go_wp2_with (fail)
   first
   | (refine post_eq ?_ (Below.refl _ _)
      simp only [Act.put,sA,sB,sC]
      try rfl
      done)
   | (refine post_eq ?_ (drewN_below _ _)
      simp only [Act.put,sA,sB,sC]
      try rfl
      done)
   | (refine post_eq ?_ hb5
      simp only [Act.put,sA,sB,sC]
      try rfl
      done)
  ·simp only [Act.put,sA,sB,sC]
   rfl
 refine obs_end fun w5 hE9 _=>?_
 have hb9:Below w.heap.size w w5:=(Below.refl w.heap.size w).drew.trans hE9
 clear hE9
 have HB5:=Lib.hid hb9
 clear hb9 HB0
 change wpList _ _ _ _ _ _
 obtain ⟨c3,c4,c6,cy⟩:=C0.out _ HB5.out
 have S0:=Lib.hid (HS.out.more HB5.out)
 have Q0:=Lib.hid (Step.ofBelow (F:=Both FD FL) HB5.out)
 clear C0 HS
 go_wp2_with fail
 clear c3 c4 c6 cy HB5 hidx hidx0 htn hfI hb1
 generalize hf:l.first=f at *
 have HF:=Lib.hid hf
 generalize hx:l.end_=x at *
 have HX:=Lib.hid hx
 clear hf hx
 go_loopw [4] (fun vk wr=>∃ (k:Nat) (D1:Dk) (FD1:Foot),vk=.int .i64 k∧f≤k∧k≤x∧SysR wr FD1 FL g gd D1 l∧Step (Both FD FL) (Both FD1 FL) w wr∧l.writes D f (x - f)=l.writes D1 k (x - k)∧D1.waits.length≤1000000+(k - f)) (fun vk _=>x - (intOf vk).toNat)
 case atStart=>exact ⟨f,D,FD,rfl,Nat.le_refl _,Nat.le_of_lt HFE.out,S0.out,Q0.out,rfl,by omega⟩
 case round =>
  obtain ⟨k,D1,FD1,rfl,hk1,hk2,hS,hQ,hwr,hwl⟩:=hrel
  have SS:=Lib.hid hS
  have QQ:=Lib.hid hQ
  have HWR:=Lib.hid hwr
  have OPk:=Lib.hid (OPN.out wr FD1 D1 hS)
  clear hS hQ hwr S0 Q0
  have hxm:(x:Int)=(l.low:Int)+m+1:=by have:=HM.out.2; omega
  have hk31:(k:Int)≤2147483711:=by have:=HE31.out; omega
  by_cases hlt:k < x
  ·have hkx:(k:Int)≤(l.low:Int)+m:=by omega
   have hxk:x - k=(x - (k+1))+1:=by omega
   have hw1:=Dk.write_waits D1 (l.place k) (l.sector k)
   have HXK:=Lib.hid hxk
   have hlk:l.low≤k:=by have:=HF0.out; omega
   have hkm:k - l.low < m+1:=by have:=HM.out.2; omega
   have hb1:=toList_pos (BS.out k hlk hlt)
   have PKk:=Lib.hid (fun W=>PK.out k W hlk hlt)
   have okw:=SS.out.dok.write (l.place k) (l.sector k)
   have OKW:=Lib.hid okw
   have WRk:Hid (∀ W,Below wr.heap.size wr W→Calls Tryz.prog 46 #[.pointer (some ⟨gd,0,none⟩),.int .i64 ((l.base:Int)+(k:Int) % (l.size:Int)),.string (l.sector k)] W fun e w'=>e=.returned (.int .i64 (D1.writeE (l.place k) (l.sector k)))∧∃ F',IsRef w' F' gd (D1.write (l.place k) (l.sector k))∧Step FD1 F' W w'):=fun W hW=>by
    rw [← place_int]
    exact refWrite_any SS.out.dok (SS.out.disk.below hW) ((l.place k:Nat):Int) (l.sector k) (by have:=HX64.out; omega)
   obtain ⟨g3,cap3,rr⟩:=LOG.out wr FD1 D1 SS.out
   have C1:Hid (∀ W,Below wr.heap.size wr W→W.cell? ⟨g,0,none⟩=some (.pointer (some ⟨gd,0,none⟩))∧W.cell? ⟨g,1,none⟩=some (.int .i64 l.base)∧W.cell? ⟨g,2,none⟩=some (.int .i64 l.size)∧W.cell? ⟨g,3,none⟩=some (.int .i64 l.low)∧W.cell? ⟨g,5,none⟩=some (.int .i64 l.epoch)∧W.cell? ⟨g,6,none⟩=some (.slice (some ⟨g3,0,none⟩) (m+1) cap3)∧W.cell? ⟨g3,k - l.low,none⟩=some (.string (bodyS (l.secs.getD (k - l.low) [])))):=fun W hW =>
    have r:=rr.below hW
    ⟨r.cells.1,r.cells.2.1,r.cells.2.2.1,r.cells.2.2.2.1,r.cells.2.2.2.2.2.1,r.cells.2.2.2.2.2.2,sec_cell r HM.out.1 hkm⟩
   have hidx:(k:Int) - (l.low:Int) < (m:Int)+1:=by omega
   have hidx0:(0:Int)≤(k:Int) - (l.low:Int):=by omega
   have htn:((k:Int) - (l.low:Int)).toNat=k - l.low:=by omega
   have u2:IntKind.u32.wrap (k:Int)=k:=by rw [IntKind.wrap_u32]; omega
   have hm0:0≤(k:Int) % (l.size:Int):=Int.emod_nonneg _ (by omega)
   have hm1:(k:Int) % (l.size:Int) < 64:=by have:=Int.emod_lt_of_pos (k:Int) (show (0:Int) < l.size by omega); omega
   clear rr hxk hlk hkm okw
   generalize bodyS (l.secs.getD (k - l.low) [])=b at *
   have HW1:=Lib.hid hw1
   clear hw1
   go_wp2_with fail
   refine OPk.out.mono ?_
   rintro e w2 ⟨rfl,nd,rfl⟩
   have HBk:=Lib.hid (drewN_below wr nd)
   clear OPk
   go_upto_region 7 with fail
   generalize hw6:wr.drewN nd=w6 at *
   clear hw6
   refine' wp_region_conf 13 (.is _::.is _::.is _::.is _::.is _::.is _::.is _::.is _::.is _::.is _::.is _::.is _::.is _::[]) (by kernel_rfl) (by kernel_rfl) (by kernel_rfl) (by kernel_rfl) rfl ?main
   case main =>
   iterate 13
    apply obs_step
    · rfl
    ·intro w4 hE4 hk4
     have hb4:=below2 HBk.out ((Below.refl w6.heap.size w6).drew.trans hE4)
     obtain ⟨d0,d1,d2,d3,d5,d6,dy⟩:=C1.out w4 hb4
     clear hk4 hE4
     go_wp2_with (fail)
     first
     | (refine post_eq ?_ (Below.refl _ _)
        simp only [Act.put,sA,sB,sC]
        try rfl
        done)
     | (refine post_eq ?_ (drewN_below _ _)
        simp only [Act.put,sA,sB,sC]
        try rfl
        done)
     | (refine post_eq ?_ hb5
        simp only [Act.put,sA,sB,sC]
        try rfl
        done)
    ·simp only [Act.put,sA,sB,sC]
     rfl
   refine obs_end fun w7 hE9 _=>?_
   have hb9:Below w6.heap.size w6 w7:=(Below.refl w6.heap.size w6).drew.trans hE9
   clear hE9
   have HB7:=Lib.hid (below2 HBk.out hb9)
   clear hb9 HBk
   change wpList _ _ _ _ _ _
   go_upto_region 8 with fail
   refine' wp_region_conf 36 (.is _::.is _::.is _::.is _::.is _::.is _::.is _::.is _::.is _::.is _::.is _::.is _::.is _::.is _::.is _::.is _::.is _::.is _::.is _::.is _::.is _::.is _::.is _::.is _::.is _::.is _::.is _::.is _::.is _::.is _::.is _::.is _::.is _::.is _::.is _::.is _::[]) (by kernel_rfl) (by kernel_rfl) (by kernel_rfl) (by kernel_rfl) rfl ?main
   case main =>
   iterate 36
    apply obs_step
    · rfl
    ·intro w4 hE4 hk4
     have hb4:=below2 HB7.out ((Below.refl w7.heap.size w7).drew.trans hE4)
     obtain ⟨d0,d1,d2,d3,d5,d6,dy⟩:=C1.out w4 hb4
     clear hk4 hE4
     go_wp2_with (go_at_call 47; refine (PKk.out _).mono ?_; rintro e w5 ⟨rfl,hb5⟩)
     first
     | (refine post_eq ?_ (Below.refl _ _)
        simp only [Act.put,sA,sB,sC]
        try rfl
        done)
     | (refine post_eq ?_ (drewN_below _ _)
        simp only [Act.put,sA,sB,sC]
        try rfl
        done)
     | (refine post_eq ?_ hb5
        simp only [Act.put,sA,sB,sC]
        try rfl
        done)
    ·simp only [Act.put,sA,sB,sC]
     rfl
   refine obs_end fun w8 hE9 _=>?_
   have hb9:Below w7.heap.size w7 w8:=(Below.refl w7.heap.size w7).drew.trans hE9
   clear hE9
   have HB8:=Lib.hid (below2 HB7.out hb9)
   clear hb9 HB7 PKk C1
   change wpList _ _ _ _ _ _
   have W8:=Lib.hid (WRk.out _ HB8.out)
   have S8:=Lib.hid (SS.out.more HB8.out)
   have Q8:=Lib.hid (QQ.out.trans (Step.ofBelow HB8.out))
   clear WRk SS QQ HB8
   by_cases her:D1.writeE (l.place k) (l.sector k)=0
   ·have hnx:l.writes D f (x - f)=l.writes (D1.write (l.place k) (l.sector k)) (k+1) (x - (k+1)):=by
     rw [HWR.out,HXK.out,Wl.writes,if_pos her]
    have HNX:=Lib.hid hnx
    rw [her] at W8
    clear hnx HWR her
    generalize D1.write (l.place k) (l.sector k)=D2 at *
    go_wp2_with fail
    refine W8.out.mono ?_
    rintro e w9 ⟨rfl,FD2,hd9,hst9⟩
    obtain ⟨hs9,hq9⟩:=S8.out.onDisk hd9 OKW.out hst9
    have S9:=Lib.hid hs9
    have Q9:=Lib.hid (Q8.out.trans hq9)
    clear hs9 hq9 hd9 hst9 W8 S8 Q8
    go_wp2
    go_roundw
    case rel=>exact ⟨k+1,D2,FD2,by go_num,by omega,by omega,S9.out,Q9.out,HNX.out,by have:=HW1.out; omega⟩
    case measure=>simp [intOf]; omega
   ·have hnx:l.writes D f (x - f)=(D1.write (l.place k) (l.sector k),D1.writeE (l.place k) (l.sector k)):=by
     rw [HWR.out,HXK.out,Wl.writes,if_neg her]
    have hfin:l.flush D=(D1.write (l.place k) (l.sector k),l,D1.writeE (l.place k) (l.sector k)):=by
     rw [HFL.out,hnx,if_pos her]
    have HFIN:=Lib.hid hfin
    have hne:(((D1.writeE (l.place k) (l.sector k):Nat):Int) != 0)=true:=by simp; omega
    clear hnx hfin HWR her HFL
    generalize D1.write (l.place k) (l.sector k)=D2 at *
    generalize D1.writeE (l.place k) (l.sector k)=er at *
    go_wp2_with fail
    refine W8.out.mono ?_
    rintro e w9 ⟨rfl,FD2,hd9,hst9⟩
    obtain ⟨hs9,hq9⟩:=S8.out.onDisk hd9 OKW.out hst9
    have S9:=Lib.hid hs9
    have Q9:=Lib.hid (Q8.out.trans hq9)
    clear hs9 hq9 hd9 hst9 W8 S8 Q8
    go_wp2
    go_ret
    rw [HFIN.out]
    exact ⟨rfl,FD2,FL,S9.out,Q9.out⟩
  ·obtain rfl:k=x:=by omega
   have hdone:l.writes D f (k - f)=(D1,0):=by rw [HWR.out,Nat.sub_self]; rfl
   have hfin:l.flush D=if D1.syncE≠0 then (D1.sync,l,D1.syncE) else (D1.sync,{ l with first:=k },0):=by
    rw [HFL.out,hdone]; rw [if_neg (by simp)]
   have HFIN:=Lib.hid hfin
   have hkx:¬ (k:Int)≤(l.low:Int)+m:=by omega
   clear hdone hfin HWR HFL PK BS
   go_wp2_with fail
   refine OPk.out.mono ?_
   rintro e w2 ⟨rfl,nd,rfl⟩
   have S2:=Lib.hid (SS.out.more (drewN_below wr nd))
   have Q2:=Lib.hid (QQ.out.trans (Step.ofBelow (drewN_below wr nd)))
   clear OPk SS QQ
   generalize wr.drewN nd=w3 at *
   have SY:=Lib.hid (refSync_any S2.out.dok S2.out.disk)
   obtain ⟨g3,cap3,rr⟩:=LOG.out w3 FD1 D1 S2.out
   have c0:=rr.cells.1
   clear rr
   by_cases her:D1.syncE=0
   ·have hf2:l.flush D=(D1.sync,{ l with first:=k },0):=by rw [HFIN.out,if_neg (by omega)]
    have HF2:=Lib.hid hf2
    rw [her] at SY
    clear hf2 HFIN her
    go_wp2_with fail
    refine SY.out.mono ?_
    rintro e w4 ⟨rfl,hd,hs⟩
    obtain ⟨hs2,hst⟩:=S2.out.onDisk hd S2.out.dok.sync hs
    have S4:=Lib.hid hs2
    have Q4:=Lib.hid (Q2.out.trans hst)
    clear hd hs hs2 hst S2 Q2 SY c0 hkx
    obtain ⟨g4,cap4,r4⟩:=LOG.out w4 FD1 _ S4.out
    have hbm:0 < (bodyS (l.secs.getD m [])).size:=(sec_pos OK.out (by have:=HM.out.1; omega)).1
    have hb2:=toList_pos hbm
    have C4:Hid (∀ W,Below w4.heap.size w4 W→W.cell? ⟨g,6,none⟩=some (.slice (some ⟨g4,0,none⟩) (m+1) cap4)∧W.cell? ⟨g4,m,none⟩=some (.string (bodyS (l.secs.getD m [])))):=fun W hW =>
     have r:=r4.below hW
     ⟨r.cells.2.2.2.2.2.2,sec_cell r HM.out.1 (by omega)⟩
    have R4:=Lib.hid r4
    have HB40:=Lib.hid (Below.refl w4.heap.size w4)
    have hlm:(m:Int) < (m:Int)+1:=by omega
    have hmm:(m:Int)+1 - 1=(m:Int):=by omega
    have hkI:(k:Int)=(l.low:Int)+((m:Int)+1):=by omega
    clear r4 hbm
    generalize bodyS (l.secs.getD m [])=b at *
    go_upto_region 14 with fail
    refine' wp_region_conf 13 (.is _::.is _::.is _::.is _::.is _::.is _::.is _::.is _::.is _::.is _::.is _::.is _::.is _::[]) (by kernel_rfl) (by kernel_rfl) (by kernel_rfl) (by kernel_rfl) rfl ?main
    case main =>
    iterate 13
     apply obs_step
     · rfl
     ·intro w44 hE4 hk4
      have hb4:=below2 HB40.out ((Below.refl w4.heap.size w4).drew.trans hE4)
      obtain ⟨d6,dy⟩:=C4.out w44 hb4
      clear hk4 hE4
      go_wp2_with (fail)
      first
      | (refine post_eq ?_ (Below.refl _ _)
         simp only [Act.put,sA,sB,sC]
         try rfl
         done)
      | (refine post_eq ?_ (drewN_below _ _)
         simp only [Act.put,sA,sB,sC]
         try rfl
         done)
      | (refine post_eq ?_ hb5
         simp only [Act.put,sA,sB,sC]
         try rfl
         done)
     ·simp only [Act.put,sA,sB,sC]
      rfl
    refine obs_end fun w5 hE9 _=>?_
    have hb9:Below w4.heap.size w4 w5:=(Below.refl w4.heap.size w4).drew.trans hE9
    clear hE9
    have HB5:=Lib.hid hb9
    clear hb9 HB40
    change wpList _ _ _ _ _ _
    obtain ⟨c6,cy⟩:=C4.out _ HB5.out
    go_upto_region 15 with fail
    clear C4 hb2 cy
    have r4:=R4.out.below HB5.out
    have B6:Below w5.heap.size w5 (w5.alloc (.cells #[.string ⟨#[]⟩] 9)):=(Below.refl _ _).alloc (Nat.le_refl _) _
    have r5:=r4.below B6
    have Q5:=Lib.hid (Step.ofBelow (F:=FL) (HB5.out.trans (B6.mono HB5.out.size)))
    have lg:=r5.head.lt
    have nq6:=r5.vg
    have c65:(w5.alloc (.cells #[.string ⟨#[]⟩] 9)).cell? ⟨g,6,none⟩=some (.slice (some ⟨g4,0,none⟩) (m+1) cap4):=r5.head.cell 6
    have z65:=r5.head.frozen 6
    obtain ⟨i0,hi0,hz0,hz1',hz2'⟩:=info_parts info_str
    have R5:=Lib.hid r5
    clear r4 r5 B6 HB5 R4
    go_wp2_with (at_builtin; refine wpList_append_lies _ rfl (.tmp 112) (.tmp 113) 62 rfl 0 9 i0 (.string ⟨#[]⟩) 1 16 Tryz.underlying62 hi0 hz0 hz1' hz2' rfl (by decide) _ _ _ rfl R5.out.rows ⟨w5.heap.size,0,none⟩ 1 1 [.string ⟨#[]⟩] rfl rfl (World.news_of_block (heap_alloc_new w5 _)) (by simp [Value.oneCell']) (by omega) (by simp only [maxLen]; omega) (by omega) (Nat.zero_le _) _ rfl ?_)
    intro gg cap w6 hown hgrow hat hlt6
    have z66:=(hgrow.frozen_far ⟨g,6,none⟩ lg (Ne.symm nq6)).trans z65
    have c66:=(hgrow.cell_far ⟨g,6,none⟩ lg (Ne.symm nq6)).trans c65
    obtain ⟨r7,s7⟩:=R5.out.pushed hown hgrow (by rw [World.size_alloc]; exact hat) hlt6
    have S7:=Lib.hid (Q5.out.trans s7)
    have R7:=Lib.hid r7
    clear hown hgrow hat hlt6 R5 Q5 lg nq6 c65 z65 s7 r7 c6 hi0 hz0 hz1' hz2'
    go_upto_region 16 with (fail)
    clear z66 c66
    generalize w6.setCell ⟨g,6,none⟩ (.slice (some ⟨gg,0,none⟩) (m+1+1) cap)=w7 at *
    have OP7:=Lib.hid (rlOpen_any R7.out OK.out.lm (by have:=HM63.out; omega))
    have ek:((l.low+(m+1):Nat):Int)=(k:Int):=by omega
    rw [ek] at OP7
    go_wp2_with fail
    refine OP7.out.mono ?_
    rintro e w8 ⟨rfl,nd,rfl⟩
    have r8:=R7.out.below (drewN_below w7 nd)
    have S8:=Lib.hid (S7.out.trans (Step.ofBelow (drewN_below w7 nd)))
    generalize w7.drewN nd=w9 at *
    have c4:=r8.cells.2.2.2.2.1
    have z4:=r8.head.frozen 4
    obtain ⟨r9,s9⟩:=r8.setFirst k
    have hlog:IsRL (w9.setCell ⟨g,4,none⟩ (.int .i64 k)) (fun b=>FL b∨b=gg) g gd { l with first:=k }:=by
     have hok:({ l with first:=k }:Wl).Ok:=by rw [← HX.out]; exact OK.out.flushed
     refine ⟨hok,.slice (some ⟨gg,0,none⟩) (m+1+1) cap,?_⟩
     have hB:({ l with first:=k }:Wl).B=l.secs.map bodyS++[(⟨#[]⟩:ByteArray)]:=Wl.B_idle (l:={ l with first:=k }) HX.out.symm
     rw [hB,show (l.secs.map bodyS++[(⟨#[]⟩:ByteArray)]).length=m+1+1 by simp [HM.out.1]]
     exact r9
    obtain ⟨S9,Q9⟩:=S4.out.onLog hlog (S8.out.trans s9)
    have SS9:=Lib.hid S9
    have QQ9:=Lib.hid (Q4.out.trans Q9)
    clear S9 Q9 hlog r9 s9 r8 S8 S4 Q4 S7 R7 OP7 ek hkI hxm
    go_wp2
    go_ret
    rw [HF2.out]
    exact ⟨rfl,FD1,_,SS9.out,QQ9.out⟩
   ·have hf2:l.flush D=(D1.sync,l,D1.syncE):=by rw [HFIN.out,if_pos her]
    have HF2:=Lib.hid hf2
    have hne:(((D1.syncE:Nat):Int) != 0)=true:=by simp; omega
    clear hf2 HFIN her
    generalize D1.syncE=er at *
    go_wp2_with fail
    refine SY.out.mono ?_
    rintro e w4 ⟨rfl,hd,hs⟩
    obtain ⟨hs2,hst⟩:=S2.out.onDisk hd S2.out.dok.sync hs
    have SS3:=Lib.hid hs2
    have QQ3:=Lib.hid (Q2.out.trans hst)
    clear hs2 hst hd hs S2 Q2 c0
    go_wp2
    go_ret
    rw [HF2.out]
    exact ⟨rfl,FD1,FL,SS3.out,QQ3.out⟩
theorem rlFlush_any (h:SysR w FD FL g gd D l) (hep:l.epoch < 4294967296) (hw:D.waits.length≤1000000) :
 Calls Tryz.prog 14 #[.pointer (some ⟨g,0,none⟩)] w (FlushR w FD FL g gd (l.flush D)):=by
 by_cases he:l.first=l.end_
 ·have e:l.flush D=(D,l,0):=by unfold Wl.flush; rw [if_pos he.symm]
  rw [e]
  exact rlFlush_idle h he
 · exact rlFlush_go h he hep hw
end
end Go.Proofs.YthkbcfhjmnpggaaGreat

namespace Go.Proofs.YthkbcfhjmnpggaaGreat
open Go.RowKit
structure EpD (D:Dk) (m:Nat):Prop where
 safe:∀ s ∈ D.safe,(slab3 s).1≤m
 wait:∀ x ∈ D.waits,(slab3 x.2).1≤m
namespace EpD
variable {D:Dk} {m m':Nat}
theorem mono (h:EpD D m) (hm:m≤m'):EpD D m':=⟨fun s hs=>Nat.le_trans (h.safe s hs) hm,fun x hx=>Nat.le_trans (h.wait x hx) hm⟩
theorem burn (h:EpD D m):EpD D.burn m:=⟨by rw [Dk.burn_safe]; exact h.safe,by rw [Dk.burn_waits]; exact h.wait⟩
theorem write (h:EpD D m) (i:Int) (s:ByteArray) (hs:(slab3 s).1≤m):EpD (D.write i s) m:=by
 unfold Dk.write
 split
 ·split
  ·split
   ·refine ⟨?_,fun x hx=>?_⟩
    ·show ∀ s ∈ D.burn.safe,_
     rw [Dk.burn_safe]; exact h.safe
    ·rcases List.mem_append.1 hx with hx | hx
     · exact h.wait x hx
     · simp at hx; subst hx; exact hs
   · exact h.burn
  · exact h
 · exact h
theorem settle (h:EpD D m) (f:Nat→Nat):∀ k,∀ s ∈ settleTo f D.waits D.safe k,(slab3 s).1≤m
 | 0=>h.safe
 | k+1=>by
   unfold settleTo
   split
   ·rename_i x hx
    intro s hs
    unfold settleOne at hs
    have ih:=settle h f k
    split at hs
    ·rcases List.mem_or_eq_of_mem_set hs with hs | rfl
     · exact ih s hs
     · exact h.wait x (List.mem_of_getElem? hx)
    ·split at hs
     ·rcases List.mem_or_eq_of_mem_set hs with hs | rfl
      · exact ih s hs
      · rw [zero_slab3]; exact Nat.zero_le _
     · exact ih s hs
   · exact settle h f k
theorem sync (h:EpD D m):EpD D.sync m:=by
 unfold Dk.sync
 split
 · exact ⟨h.settle _ _,fun x hx=>by simp at hx⟩
 · exact h.burn
theorem crash (h:EpD D m) (p:List UInt8):EpD (D.crash p) m:=⟨h.settle _ _,fun x hx=>by simp [Dk.crash] at hx⟩
theorem arm (h:EpD D m) (k:Int):EpD (D.arm k) m:=⟨h.safe,h.wait⟩
theorem new (n:Nat):EpD (Dk.new n) m:=⟨fun s hs=>by rw [List.eq_of_mem_replicate hs,zero_slab3]; exact Nat.zero_le _,fun x hx=>by simp [Dk.new] at hx⟩
theorem at_ (h:EpD D m) (i:Nat) (hi:i < D.safe.length):(slab3 (D.at_ (i:Int))).1≤m:=by
 unfold Dk.at_
 cases hl:lastOf D.waits i with
 | some s =>
   obtain ⟨x,hx,_,rfl⟩:=lastOf_mem hl
   exact h.wait x hx
 | none =>
   simp only [Option.getD_none,Int.toNat_natCast]
   rw [List.getD_eq_getElem?_getD,List.getElem?_eq_getElem hi]
   exact h.safe _ (List.getElem_mem hi)
end EpD
theorem Dk.write_len (D:Dk) (i:Int) (s:ByteArray):(D.write i s).safe.length=D.safe.length:=by
 unfold Dk.write
 split
 ·split
  ·split
   ·show D.burn.safe.length=_
    rw [Dk.burn_safe]
   · rw [Dk.burn_safe]
  · rfl
 · rfl
theorem Dk.sync_len (D:Dk):D.sync.safe.length=D.safe.length:=by
 unfold Dk.sync
 split
 ·show (D.settled _).length=_
  unfold Dk.settled
  exact settleTo_len _ _ _ _
 · rw [Dk.burn_safe]
theorem Dk.sync_waits (D:Dk):D.sync.waits.length≤D.waits.length:=by
 unfold Dk.sync
 split
 · simp
 · rw [Dk.burn_waits]; exact Nat.le_refl _
structure Wrote (D D':Dk) (m c:Nat):Prop where
 ok:D'.Ok
 len:D'.safe.length=D.safe.length
 ep:EpD D' m
 ws:D'.waits.length≤D.waits.length+c
theorem writes_keep {l:Wl} {m:Nat} (ok:l.Ok) (he:l.epoch < 4294967296) (hem:l.epoch≤m):∀ (c:Nat) (D:Dk) (f:Nat),D.Ok→EpD D m→f+c≤4294967296→Wrote D (l.writes D f c).1 m c
 | 0,D,f,h1,h2,_=>⟨h1,rfl,h2,Nat.le_refl _⟩
 | c+1,D,f,h1,h2,h3=>by
   have hs:(slab3 (l.sector f)).1≤m:=by
    unfold Wl.sector
    have hb:(bodyS (l.secs.getD (f - l.low) [])).size≤112:=by
     rw [bodyS_size]
     by_cases hl:f - l.low < l.secs.length
     ·rw [List.getD_eq_getElem?_getD,List.getElem?_eq_getElem hl]
      exact (ok.sec _ (List.getElem_mem hl)).2.2
     ·rw [List.getD_eq_getElem?_getD,List.getElem?_eq_none (by omega)]
      simp [body]
    rw [packed_slab3 he (by omega) hb]
    exact hem
   have w1:=h1.write (l.place f) (l.sector f)
   have w2:=h2.write (l.place f) (l.sector f) hs
   have w3:=Dk.write_len D (l.place f) (l.sector f)
   have w4:=Dk.write_waits D (l.place f) (l.sector f)
   rw [Wl.writes]
   split
   ·have ih:=writes_keep ok he hem c (D.write (l.place f) (l.sector f)) (f+1) w1 w2 (by omega)
    exact ⟨ih.ok,ih.len.trans w3,ih.ep,by have:=ih.ws; omega⟩
   · exact ⟨w1,w3,w2,by show (D.write (l.place f) (l.sector f)).waits.length≤_; omega⟩
structure Keep15 (D:Dk) (l:Wl) (N j:Nat):Prop where
 ok:l.Ok
 dok:D.Ok
 len:D.safe.length=64
 ep:EpD D (j+1)
 ws:D.waits.length≤70*j
 le:l.epoch≤j+1
 low:l.low≤1+64*j
 base:l.base=0
 size:l.size=N
namespace Keep15
variable {D:Dk} {l:Wl} {N j:Nat}
theorem new (h8:8≤N) (h64:N≤64):Keep15 (Dk.new 64) (Wl.new 0 N) N 0 :=
 ⟨Wl.Ok.new h8 h64 (by omega),Dk.Ok.new (by omega) (by omega),by simp [Dk.new],EpD.new _,Nat.zero_le _,Nat.le_refl _,Nat.le_refl _,rfl,rfl⟩
theorem mono (h:Keep15 D l N j) {j':Nat} (hj:j≤j'):Keep15 D l N j':=⟨h.ok,h.dok,h.len,h.ep.mono (by omega),by have:=h.ws; omega,by have:=h.le; omega,by have:=h.low; omega,h.base,h.size⟩
theorem app (h:Keep15 D l N j) (r:Rc):Keep15 D (l.app r).2.2 N j:=by
 by_cases hm:May r
 ·rw [Wl.app_may hm]
  have hs:(l.put r).base=l.base∧(l.put r).size=l.size∧(l.put r).epoch=l.epoch∧(l.put r).low=l.low:=by
   unfold Wl.put; split
   · exact ⟨rfl,rfl,rfl,rfl⟩
   · split <;> exact ⟨rfl,rfl,rfl,rfl⟩
  exact ⟨h.ok.put hm (lay_short hm),h.dok,h.len,h.ep,h.ws,by rw [hs.2.2.1]; exact h.le,by rw [hs.2.2.2]; exact h.low,by rw [hs.1]; exact h.base,by rw [hs.2.1]; exact h.size⟩
 · rw [Wl.app_not hm]; exact h
theorem arm (h:Keep15 D l N j) (k:Int) (hk:k < 9223372036854775808):Keep15 (D.arm k) l N j:=⟨h.ok,h.dok.arm k hk,h.len,h.ep.arm k,h.ws,h.le,h.low,h.base,h.size⟩
theorem flush (h:Keep15 D l N j) (hj:j≤1000):Keep15 (l.flush D).1 (l.flush D).2.1 N (j+1):=by
 have hm:=h.mono (Nat.le_succ j)
 have hfe:=h.ok.fe
 have hend:l.end_≤l.low+64:=by have:=h.ok.len; have:=h.ok.s64; unfold Wl.end_; omega
 have hlow:=h.low
 have W:=writes_keep h.ok (by have:=h.le; omega) h.le (l.end_ - l.first) D l.first h.dok h.ep (by omega)
 have hc:l.end_ - l.first≤64:=by have:=h.ok.fl; omega
 have hws:=W.ws
 have hws0:=h.ws
 unfold Wl.flush
 split
 · exact hm
 ·split
  · exact ⟨h.ok,W.ok,W.len.trans h.len,W.ep.mono (by omega),by show (l.writes D l.first (l.end_ - l.first)).1.waits.length≤_; omega,hm.le,hm.low,h.base,h.size⟩
  ·have s1:=Dk.sync_len (l.writes D l.first (l.end_ - l.first)).1
   have s2:=Dk.sync_waits (l.writes D l.first (l.end_ - l.first)).1
   split
   · exact ⟨h.ok,W.ok.sync,s1.trans (W.len.trans h.len),W.ep.sync.mono (by omega),by show (l.writes D l.first (l.end_ - l.first)).1.sync.waits.length≤_; omega,hm.le,hm.low,h.base,h.size⟩
   · exact ⟨h.ok.flushed,W.ok.sync,s1.trans (W.len.trans h.len),W.ep.sync.mono (by omega),by show (l.writes D l.first (l.end_ - l.first)).1.sync.waits.length≤_; omega,hm.le,hm.low,h.base,h.size⟩
theorem cut (h:Keep15 D l N j) (x:Int) (hj:j≤1000):Keep15 D (l.cutI x) N (j+1):=by
 unfold Wl.cutI
 split
 · exact h.mono (Nat.le_succ j)
 ·have hend:l.end_≤l.low+64:=by have:=h.ok.len; have:=h.ok.s64; unfold Wl.end_; omega
  have hlow:=h.low
  have hfe:=h.ok.fe
  have hm:=h.mono (Nat.le_succ j)
  exact ⟨h.ok.cutTo (by omega) (by omega) (by omega),hm.dok,hm.len,hm.ep,hm.ws,hm.le,by show x.toNat≤_; omega,h.base,h.size⟩
theorem first (h:Keep15 D l N j) (hj:j≤1000):l.first≤2147483647:=by
 have hend:l.end_≤l.low+64:=by have:=h.ok.len; have:=h.ok.s64; unfold Wl.end_; omega
 have hlow:=h.low
 have hfe:=h.ok.fe
 omega
theorem crash (h:Keep15 D l N j) (p:List UInt8) (hj:j≤1000) (h8:8≤N) (h64:N≤64):Keep15 (D.crash p) (Wl.opened (D.crash p) 0 N l.low) N (j+1):=by
 have hlow:=h.low
 have hlen:(D.crash p).safe.length=64:=by
  show (D.settled _).length=_
  unfold Dk.settled
  rw [settleTo_len]
  exact h.len
 have hep:=h.ep.crash p
 have hm:=h.mono (Nat.le_succ j)
 refine ⟨Wl.Ok.opened h8 h64 (by omega) h.ok.l1 (by omega),h.dok.crash p,hlen,hep.mono (by omega),by simp [Dk.crash],?_,hm.low,rfl,rfl⟩
 show epochOf (ringOf (Wl.head 0 N l.low) (D.crash p) N)≤j+1+1
 have key:∀ L:List Slab3,(∀ x ∈ L,x.1≤j+1)→epochOf L≤j+1+1:=fun L=>by
  refine snoc_ind (p:=fun L=>(∀ x ∈ L,x.1≤j+1)→epochOf L≤j+1+1) (fun _=>by simp [epochOf]) (fun L x ih hx=>?_) L
  rw [epochOf_snoc]
  have:=ih fun y hy=>hx y (by simp [hy])
  have:=hx x (by simp)
  omega
 refine key _ fun x hx=>?_
 unfold ringOf at hx
 obtain ⟨i,hi,rfl⟩:=List.mem_map.1 hx
 have hmod:=Nat.mod_lt (l.low+i) (show 0 < N by omega)
 exact hep.at_ ((Wl.head 0 N l.low).place ((Wl.head 0 N l.low).low+i)) (by
  rw [hlen]
  show 0+(l.low+i) % N < 64
  omega)
end Keep15
end Go.Proofs.YthkbcfhjmnpggaaGreat
