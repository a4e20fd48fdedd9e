/- Texts that belong together, joined: RefB, RefC, RefD, RefE, RefF, RpF, RecS. -/
import Derived.Test.YthkbcfhjmnpggaaGreatK21
import Derived.Test.YthkbcfhjmnpggaaGreatK16
import Derived.Test.YthkbcfhjmnpggaaGreatK01
namespace Go.Proofs.YthkbcfhjmnpggaaGreat
open Go.RowKit
theorem info_refwrite:(Tryz.prog.info? 115).map (fun i=>(i.zero,i.size,i.bytes))=some (some (.agg #[.int .i64 0,.string ⟨#[]⟩]),2,24):=by kernel_rfl
section
variable {w:World} {F:Foot} {g:Nat} {d:Dk}
set_option maxRecDepth 100000 in
set_option maxHeartbeats 4000000 in
theorem refWrite_ok (ho:d.Ok) (h:IsRef w F g d) (k:Nat) (s:ByteArray) (hi:d.has k) (hs:s.size=128) (hbear:d.bears=true) (hl:d.waits.length < 16777216) :
 Calls Tryz.prog 46 #[.pointer (some ⟨g,0,none⟩),.int .i64 k,.string s] w fun e w'=>e=.returned (.int .i64 0)∧∃ F',IsRef w' F' g { d.burn with waits:=d.waits++[(k,s)] }∧Step F F' w w':=by
 obtain ⟨i0,hi0,hz0,hz1,hz2⟩:=info_parts info_refwrite
 have H2:=Lib.hid (borne_any h ho.fuse true hbear.symm)
 have hne:((s.size:Int) != 128)=false:=by simp [hs]
 have hk0:decide ((k:Int) < 0)=false:=by simp
 have hk1:decide (d.safe.length≤k)=false:=by have:=hi.2; simp; omega
 have hk1:¬ d.safe.length≤k:=by simpa using hk1
 have hbw:=Dk.burn_waits d
 rw [← hbw] at hl
 have HW:=Lib.hid hbw
 obtain ⟨vs,vq,r⟩:=h
 obtain ⟨b,cap,rfl,hcap⟩:=own_head ho r.safe
 obtain ⟨c0,_⟩:=r.cells
 have hn:=ho.le
 generalize d.safe.length=n at *
 generalize hB:d.burn=D at *
 have HB:=Lib.hid hB
 clear hi hs hbear hbw hB r ho
 go_enter Tryz.func46,Tryz.ntmps46
 go_wp2_with fail
 refine H2.out.mono ?_
 rintro e w1 ⟨rfl,⟨vs,vq,r1⟩,hs1⟩
 have rW:=r1.below ((Below.refl _ _).alloc (Nat.le_refl _) (.cells #[.int .i64 (k:Int),.string s] 115))
 obtain ⟨_,c1,_⟩:=r1.cells
 have f1:=rW.frozen 1
 have lg:=r1.lt g r1.fg
 have lg2:=rW.lt g rW.fg
 have hown:=rW.wait
 have nq:=rW.gq
 have RW:=Lib.hid rW
 have HS1:=Lib.hid hs1
 clear r1 rW hs1
 go_wp2_with (at_builtin; refine wpList_append_own_at _ rfl (.tmp 28) (.tmp 32) 63 rfl 0 115 i0 (.agg #[.int .i64 0,.string ⟨#[]⟩]) 2 24 Tryz.underlying63 hi0 hz0 hz1 hz2 rfl (by decide) vq _ _ rfl hown ⟨w1.heap.size,0,none⟩ 1 1 [.int .i64 k,.string s] rfl rfl (World.news_of_block (cs:=#[.int .i64 k,.string s]) (t:=115) (fr:=(0,0)) (heap_alloc_new w1 _)) (by simp [Value.oneCell']) (by simp only [maxLen]; omega) (by omega) (Nat.zero_le _) ?_)
 intro v' w3 hown3 hgrow _ hat
 have hfar:∀ b,b < (w1.alloc (.cells #[.int .i64 (k:Int),.string s] 115)).heap.size→vq.ownBlock≠some b→w3.heap[b]? = (w1.alloc (.cells #[.int .i64 (k:Int),.string s] 115)).heap[b]?:=fun b hb hne=>hgrow.block b hb (Ne.symm hne)
 obtain ⟨r3,s3⟩:=RW.out.rewait (v':=v') (D.waits++[(k,s)]) (by rw [List.length_append,waitsV_snoc]; exact hown3) ((Step.refl F _).grown hgrow RW.out.fq) hfar (fun b hb=>by
  rcases hat with e | e
  · rw [e] at hb; exact .inl (RW.out.fq b hb)
  · rw [e] at hb; cases hb; exact .inr (by simp))
 have hfin:IsRef (w3.setCell ⟨g,1,none⟩ v') (fun b=>F b∨v'.ownBlock=some b) g { D with waits:=d.waits++[(k,s)] }:=by rw [← HW.out]; exact ⟨_,_,r3⟩
 have R3:=Lib.hid hfin
 have S3:=Lib.hid ((HS1.out.alloc (.cells #[.int .i64 (k:Int),.string s] 115)).trans s3)
 have f3:=(hgrow.frozen_far ⟨g,1,none⟩ lg2 (Ne.symm nq)).trans f1
 have c3:=(hgrow.cell_far ⟨g,1,none⟩ lg2 (Ne.symm nq)).trans (RW.out.cells).2.1
 obtain ⟨gg,cap,hv,_⟩:=own_len hown3
 subst hv
 clear r3 s3 hfin hown3 hgrow hat hfar hown f1 c1
 go_wp2
 go_ret
 exact ⟨rfl,_,R3.out,S3.out⟩
set_option maxRecDepth 100000 in
set_option maxHeartbeats 1000000 in
theorem refWrite_range (ho:d.Ok) (h:IsRef w F g d) (i:Int) (s:ByteArray) (hi:¬ d.has i) :
 Calls Tryz.prog 46 #[.pointer (some ⟨g,0,none⟩),.int .i64 i,.string s] w fun e w'=>e=.returned (.int .i64 2)∧w=w':=by
 obtain ⟨vs,vq,r⟩:=h
 obtain ⟨b,cap,rfl,hcap⟩:=own_head ho r.safe
 obtain ⟨c0,_⟩:=r.cells
 have hn:=ho.le
 unfold Dk.has at hi
 generalize d.safe.length=n at *
 clear r ho
 by_cases h0:i < 0
 ·have hk0:decide (i < 0)=true:=by simpa using h0
  clear hi h0
  go_enter Tryz.func46,Tryz.ntmps46
  go_wp2
  go_ret
  exact ⟨rfl,rfl⟩
 ·have hk0:decide (i < 0)=false:=by simpa using h0
  have hk1:decide ((n:Int)≤i)=true:=by simp; omega
  clear hi h0
  go_enter Tryz.func46,Tryz.ntmps46
  go_wp2
  go_ret
  exact ⟨rfl,rfl⟩
set_option maxRecDepth 100000 in
set_option maxHeartbeats 1000000 in
theorem refWrite_size (ho:d.Ok) (h:IsRef w F g d) (i:Int) (s:ByteArray) (hi:d.has i) (hs:s.size≠128) :
 Calls Tryz.prog 46 #[.pointer (some ⟨g,0,none⟩),.int .i64 i,.string s] w fun e w'=>e=.returned (.int .i64 1)∧w=w':=by
 have hne:((s.size:Int) != 128)=true:=by simp; omega
 obtain ⟨vs,vq,r⟩:=h
 obtain ⟨b,cap,rfl,hcap⟩:=own_head ho r.safe
 obtain ⟨c0,_⟩:=r.cells
 have hn:=ho.le
 have hk0:decide (i < 0)=false:=by have:=hi.1; simp; omega
 have hk1:decide ((d.safe.length:Int)≤i)=false:=by have:=hi.2; simp; omega
 clear r ho hi hs
 go_enter Tryz.func46,Tryz.ntmps46
 go_wp2
 go_ret
 exact ⟨rfl,rfl⟩
set_option maxRecDepth 100000 in
set_option maxHeartbeats 1000000 in
theorem refWrite_dead (ho:d.Ok) (h:IsRef w F g d) (i:Int) (s:ByteArray) (hi:d.has i) (hs:s.size=128) (hb:d.bears=false) :
 Calls Tryz.prog 46 #[.pointer (some ⟨g,0,none⟩),.int .i64 i,.string s] w fun e w'=>e=.returned (.int .i64 4)∧IsRef w' F g d.burn∧Step F F w w':=by
 have hne:((s.size:Int) != 128)=false:=by simp [hs]
 have H2:=Lib.hid (borne_any h ho.fuse false hb.symm)
 obtain ⟨vs,vq,r⟩:=h
 obtain ⟨b,cap,rfl,hcap⟩:=own_head ho r.safe
 obtain ⟨c0,_⟩:=r.cells
 have hn:=ho.le
 have hk0:decide (i < 0)=false:=by have:=hi.1; simp; omega
 have hk1:decide ((d.safe.length:Int)≤i)=false:=by have:=hi.2; simp; omega
 clear r ho hi hs hb
 go_enter Tryz.func46,Tryz.ntmps46
 go_wp2_with fail
 refine H2.out.mono ?_
 rintro e w1 ⟨rfl,hd,hs⟩
 go_wp2
 go_ret
 exact ⟨rfl,hd,hs⟩
theorem refWrite_any (ho:d.Ok) (h:IsRef w F g d) (i:Int) (s:ByteArray) (hl:d.waits.length < 16777216) :
 Calls Tryz.prog 46 #[.pointer (some ⟨g,0,none⟩),.int .i64 i,.string s] w fun e w'=>e=.returned (.int .i64 (d.writeE i s))∧∃ F',IsRef w' F' g (d.write i s)∧Step F F' w w':=by
 unfold Dk.writeE Dk.write
 by_cases hi:d.has i
 ·rw [if_pos hi,if_pos hi]
  by_cases hs:s.size=128
  ·rw [if_pos hs,if_pos hs]
   cases hb:d.bears with
   | true =>
     obtain ⟨k,rfl⟩:=Int.eq_ofNat_of_zero_le hi.1
     exact refWrite_ok ho h k s hi hs hb hl
   | false=>exact (refWrite_dead ho h i s hi hs hb).mono fun e w' k=>⟨k.1,F,k.2⟩
  ·rw [if_neg hs,if_neg hs]
   exact (refWrite_size ho h i s hi hs).mono fun e w' ⟨k1,k2⟩=>⟨k1,F,k2 ▸ h,k2 ▸ Step.refl F w⟩
 ·rw [if_neg hi,if_neg hi]
  exact (refWrite_range ho h i s hi).mono fun e w' ⟨k1,k2⟩=>⟨k1,F,k2 ▸ h,k2 ▸ Step.refl F w⟩
end
end Go.Proofs.YthkbcfhjmnpggaaGreat

namespace Go.Proofs.YthkbcfhjmnpggaaGreat
open Go.RowKit
section
variable {w:World} {F:Foot} {g:Nat} {d:Dk}
theorem part_one (d:Dk) (f:Nat→Nat) (k:Nat) (hk:k < d.waits.length) (n:Nat) (hn:f k=n):d.part f (k+1) = { d.part f k with safe:=settleOne n (d.waits[k].1,d.waits[k].2) (d.part f k).safe }:=by
 unfold Dk.part
 rw [settleTo_succ _ _ _ _ hk,hn]
set_option maxRecDepth 100000 in
set_option maxHeartbeats 4000000 in
theorem refSync_ok (ho:d.Ok) (h:IsRef w F g d) (hbear:d.bears=true) :
 Calls Tryz.prog 48 #[.pointer (some ⟨g,0,none⟩)] w fun e w'=>e=.returned (.int .i64 0)∧IsRef w' F g d.sync∧Step F F w w':=by
 have H2:=Lib.hid (borne_any h ho.fuse true hbear.symm)
 have hsync:d.sync = { d.burn.part (fun _=>1) d.burn.waits.length with waits:=[] }:=by
  unfold Dk.sync Dk.part Dk.settled
  rw [if_pos hbear,Dk.burn_waits,Dk.burn_safe]
 rw [hsync]
 have ho:=ho.burn
 clear hsync hbear h
 generalize d.burn=D at *
 have hn:=ho.le
 have hin:∀ k (hk:k < D.waits.length),D.waits[k].1 < D.safe.length:=fun k hk=>(ho.wait _ (List.getElem_mem hk)).1
 have HIN:=Lib.hid hin
 have HO:=Lib.hid ho
 clear hin ho
 have hlen:∀ k,(D.part (fun _=>1) k).safe.length=D.safe.length:=fun k=>settleTo_len _ _ _ _
 have HL:=Lib.hid hlen
 clear hlen
 go_enter Tryz.func48,Tryz.ntmps48
 go_wp2_with fail
 refine H2.out.mono ?_
 rintro e w1 ⟨rfl,⟨vs,vq,r⟩,s1⟩
 obtain ⟨b,cap,rfl,hcap⟩:=own_head HO.out r.safe
 obtain ⟨qa,capq,rfl,hqm⟩:∃ qa capq,vq=.slice qa D.waits.length capq∧D.waits.length≤9223372036854775807:=by
  rcases own_any r.wait with ⟨rfl,h0,_⟩ | ⟨q,capq,rfl,hq,hqm⟩
  · exact ⟨none,0,by rw [h0],by omega⟩
  · exact ⟨_,capq,rfl,by unfold maxLen at hqm; omega⟩
 have HR:Hid (RefRaw w1 F g (D.part (fun _=>1) 0) (.slice (some ⟨b,0,none⟩) D.safe.length cap) (.slice qa D.waits.length capq)):=r
 have HS1:=Lib.hid s1
 clear r s1
 go_wp2
 go_loopw [3] (fun i wr=>∃ k:Nat,k≤D.waits.length∧i=.int .i64 k∧RefRaw wr F g (D.part (fun _=>1) k) (.slice (some ⟨b,0,none⟩) D.safe.length cap) (.slice qa D.waits.length capq)∧Step F F w1 wr) (fun i _=>D.waits.length - (intOf i).toNat)
 case atStart=>exact ⟨0,Nat.zero_le _,rfl,HR.out,Step.refl _ _⟩
 case round =>
  obtain ⟨k,hk,rfl,hr,hst⟩:=hrel
  obtain ⟨c0,c1,_⟩:=hr.cells
  by_cases hlt:k < D.waits.length
  ·have hkl:=hlt
   rcases own_any hr.wait with ⟨_,h0,_⟩ | ⟨q,capq',hqe,_,_⟩
   · exact absurd h0 (by show D.waits.length≠0; omega)
   simp only [Value.slice.injEq] at hqe
   obtain ⟨rfl,_,rfl⟩:=hqe
   obtain ⟨e0,e1⟩:=waitsV_at D.waits k hkl
   have hw:=hr.wait
   rw [show (D.part (fun _=>1) k).waits=D.waits from rfl] at hw
   have q0:=(hw.cellAt (k*2) (by omega)).trans e0
   have q1:=(hw.cellAt (k*2+1) (by omega)).trans e1
   have hi:=HIN.out k hkl
   have hx0:(0:Int)≤(D.waits[k].1:Int):=Int.natCast_nonneg _
   have hx1:(D.waits[k].1:Int) < (D.safe.length:Int):=by omega
   have hpart:=part_one D (fun _=>1) k hkl 1 rfl
   generalize D.waits[k].1=j at *
   generalize D.waits[k].2=s at *
   have hl1:(D.part (fun _=>1) k).safe.length=D.safe.length:=HL.out k
   have hsafe:=hr.safe
   rw [hl1] at hsafe
   have e1:=hsafe.cellAt j (by omega)
   obtain ⟨u,hu⟩:∃ u,(strsV (D.part (fun _=>1) k).safe)[j]? = some u:=⟨_,List.getElem?_eq_getElem (by rw [strsV_len,hl1]; exact hi)⟩
   rw [hu] at e1
   have f1:=hsafe.frozenAt j
   obtain ⟨r2,s2⟩:=hr.drew.stored hl1.symm j s
   have R2:Hid (RefRaw (wr.drew.setCell ⟨b,j,none⟩ (.string s)) F g (D.part (fun _=>1) (k+1)) (.slice (some ⟨b,0,none⟩) D.safe.length cap) (.slice (some ⟨q,0,none⟩) D.waits.length capq)):=by rw [hpart]; exact r2
   have S2:=Lib.hid (hst.drew.trans s2)
   clear r2 s2 hpart hsafe hu hl1 hr hst hw e0
   go_wp2_with fail
   go_still_tail 21,(by kernel_rfl)
   go_wp2
   go_roundw
   case rel=>exact ⟨k+1,by omega,by go_num,R2.out,S2.out⟩
   case measure=>simp [intOf]; omega
  ·obtain rfl:k=D.waits.length:=by omega
   obtain ⟨r2,s2⟩:=hr.dropped
   have hf:IsRef (wr.setCell ⟨g,1,none⟩ (.slice none 0 0)) F g { D.part (fun _=>1) D.waits.length with waits:=[] }:=⟨_,_,r2⟩
   have R2:=Lib.hid hf
   have S2:=Lib.hid ((HS1.out.trans hst).trans s2)
   have f1:=hr.frozen 1
   clear r2 s2 hf hr hst
   go_wp2
   go_ret
   exact ⟨rfl,R2.out,S2.out⟩
set_option maxRecDepth 100000 in
set_option maxHeartbeats 1000000 in
theorem refSync_dead (ho:d.Ok) (h:IsRef w F g d) (hb:d.bears=false) :
 Calls Tryz.prog 48 #[.pointer (some ⟨g,0,none⟩)] w fun e w'=>e=.returned (.int .i64 4)∧IsRef w' F g d.burn∧Step F F w w':=by
 have H2:=Lib.hid (borne_any h ho.fuse false hb.symm)
 clear h hb ho
 go_enter Tryz.func48,Tryz.ntmps48
 go_wp2_with fail
 refine H2.out.mono ?_
 rintro e w1 ⟨rfl,hd,hs⟩
 go_wp2
 go_ret
 exact ⟨rfl,hd,hs⟩
theorem refSync_any (ho:d.Ok) (h:IsRef w F g d) :
 Calls Tryz.prog 48 #[.pointer (some ⟨g,0,none⟩)] w fun e w'=>e=.returned (.int .i64 d.syncE)∧IsRef w' F g d.sync∧Step F F w w':=by
 unfold Dk.syncE
 cases hb:d.bears with
 | true=>exact refSync_ok ho h hb
 | false =>
   have e:d.sync=d.burn:=by unfold Dk.sync; rw [hb]; rfl
   rw [e]
   exact refSync_dead ho h hb
end
end Go.Proofs.YthkbcfhjmnpggaaGreat

namespace Go.Proofs.YthkbcfhjmnpggaaGreat
open Go.RowKit
section
variable {w:World} {F:Foot} {g:Nat} {d:Dk}
theorem RefRaw.reset {vs vq:Value} (h:RefRaw w F g d vs vq) :
 IsRef (((w.setCell ⟨g,1,none⟩ (.slice none 0 0)).setCell ⟨g,2,none⟩ (.bool false)).setCell ⟨g,3,none⟩ (.int .i64 (-1))) F g ⟨d.safe,[],false,none⟩ ∧
 Step F F w (((w.setCell ⟨g,1,none⟩ (.slice none 0 0)).setCell ⟨g,2,none⟩ (.bool false)).setCell ⟨g,3,none⟩ (.int .i64 (-1))):=by
 obtain ⟨r,s⟩:=h.dropped
 have hb:=(r.head.set 2 (.bool false)).set 3 (.int .i64 (-1))
 have far:∀ (w:World) (i:Nat) (v:Value) b,b≠g→(w.setCell ⟨g,i,none⟩ v).heap[b]? = w.heap[b]?:=fun w i v b hb=>heap_setCell_other w ⟨g,i,none⟩ b v hb
 refine ⟨⟨_,_,r.reheaded (gone:=false) (k:=none) hb (fun b h=>(far _ 3 _ b h).trans (far _ 2 _ b h)) (by simp [World.setCell])⟩,?_⟩
 exact (s.set (p:=⟨g,2,none⟩) r.fg _).set (p:=⟨g,3,none⟩) r.fg _
set_option maxRecDepth 100000 in
set_option maxHeartbeats 8000000 in
theorem refCrash_any (ho:d.Ok) (h:IsRef w F g d) (v:Value) (p:List UInt8) (hr:Reads w v (byteVs p)) (hv:p≠[]→∀ b,v.ownBlock=some b→¬ F b) :
 Calls Tryz.prog 21 #[.pointer (some ⟨g,0,none⟩),v] w fun e w'=>e=.returned (.tuple #[])∧IsRef w' F g (d.crash p)∧Step F F w w':=by
 have hcr:d.crash p=⟨(d.part (fate p) d.waits.length).safe,[],false,none⟩:=rfl
 rw [hcr]
 clear hcr
 obtain ⟨vs,vq,r⟩:=h
 obtain ⟨b,cap,rfl,hcap⟩:=own_head ho r.safe
 obtain ⟨qa,capq,rfl,hqm⟩:∃ qa capq,vq=.slice qa d.waits.length capq∧d.waits.length≤9223372036854775807:=by
  rcases own_any r.wait with ⟨rfl,h0,_⟩ | ⟨q,capq,rfl,hq,hqm⟩
  · exact ⟨none,0,by rw [h0],by omega⟩
  · exact ⟨_,capq,rfl,by unfold maxLen at hqm; omega⟩
 have hn:=ho.le
 obtain ⟨pa,pcap,rfl⟩:∃ pa pcap,v=.slice pa p.length pcap:=by
  obtain ⟨a,c,e,_⟩:=id hr
  rw [byteVs_len] at e
  exact ⟨a,c,e⟩
 have HP:=Lib.hid hr
 have HV:Hid (byteVs p≠[]→∀ b,(Value.slice pa p.length pcap).ownBlock=some b→¬ F b):=fun h=>hv (fun e=>h (by rw [e]; rfl))
 clear hr hv
 have hin:∀ k (hk:k < d.waits.length),d.waits[k].1 < d.safe.length:=fun k hk=>(ho.wait _ (List.getElem_mem hk)).1
 have HIN:=Lib.hid hin
 clear hin ho
 have HR:Hid (RefRaw w F g (d.part (fate p) 0) (.slice (some ⟨b,0,none⟩) d.safe.length cap) (.slice qa d.waits.length capq)):=r
 clear r
 have hlen:∀ k,(d.part (fate p) k).safe.length=d.safe.length:=fun k=>settleTo_len _ _ _ _
 have HL:=Lib.hid hlen
 clear hlen
 go_enter Tryz.func21,Tryz.ntmps21
 go_wp2
 go_loopw [4] (fun i wr=>∃ k:Nat,k≤d.waits.length∧i=.int .i64 k∧RefRaw wr F g (d.part (fate p) k) (.slice (some ⟨b,0,none⟩) d.safe.length cap) (.slice qa d.waits.length capq)∧Step F F w wr) (fun i _=>d.waits.length - (intOf i).toNat)
 case atStart=>exact ⟨0,Nat.zero_le _,rfl,HR.out,Step.refl _ _⟩
 case round =>
  obtain ⟨k,hk,rfl,hr,hst⟩:=hrel
  obtain ⟨c0,c1,_⟩:=hr.cells
  by_cases hlt:k < d.waits.length
  ·have hkl:=hlt
   rcases own_any hr.wait with ⟨_,h0,_⟩ | ⟨q,capq',hqe,_,_⟩
   · exact absurd h0 (by show d.waits.length≠0; omega)
   simp only [Value.slice.injEq] at hqe
   obtain ⟨rfl,_,rfl⟩:=hqe
   obtain ⟨e0,e1⟩:=waitsV_at d.waits k hkl
   have hw:=hr.wait
   rw [show (d.part (fate p) k).waits=d.waits from rfl] at hw
   have q0:=(hw.cellAt (k*2) (by omega)).trans e0
   have q1:=(hw.cellAt (k*2+1) (by omega)).trans e1
   have hi:=HIN.out k hkl
   have hx0:(0:Int)≤(d.waits[k].1:Int):=Int.natCast_nonneg _
   have hx1:(d.waits[k].1:Int) < (d.safe.length:Int):=by omega
   have HPT:=Lib.hid (part_one d (fate p) k hkl)
   generalize d.waits[k].1=j at *
   generalize d.waits[k].2=s at *
   have hl1:(d.part (fate p) k).safe.length=d.safe.length:=HL.out k
   have hsafe:=hr.safe
   rw [hl1] at hsafe
   have e1:=hsafe.cellAt j (by omega)
   obtain ⟨u,hu⟩:∃ u,(strsV (d.part (fate p) k).safe)[j]? = some u:=⟨_,List.getElem?_eq_getElem (by rw [strsV_len,hl1]; exact hi)⟩
   rw [hu] at e1
   have f1:=hsafe.frozenAt j
   have HRR:=Lib.hid hr
   have HST:=Lib.hid hst
   have HL1:=Lib.hid hl1
   have HSF:=Lib.hid hsafe
   have HU:=Lib.hid hu
   have HE0:=Lib.hid e0
   have hp:=HP.out.step hst HV.out
   have hf3:=fate_lt p k
   clear hr hst hl1 hsafe hu hw e0
   rcases hp.cases with ⟨h0,a,cp,he⟩ | ⟨pb,off,cp,he,hpos,hcap,hltp,hc⟩
   ·-- no picks
    have hp0:p = []:=by simpa [byteVs] using h0
    have hF:fate p k=0:=by rw [hp0]; rfl
    have hlp:p.length=0:=by rw [hp0]; rfl
    have R2:Hid (RefRaw wr F g (d.part (fate p) (k+1)) (.slice (some ⟨b,0,none⟩) d.safe.length cap) (.slice (some ⟨q,0,none⟩) d.waits.length capq)):=by
     show RefRaw _ _ _ _ _ _
     rw [HPT.out 0 hF]
     exact HRR.out
    have hp00:decide (0 < p.length)=false:=by rw [hlp]; rfl
    have hp01:¬ 0 < p.length:=by omega
    clear hp h0 he hF hlp hp0 hf3 hp00
    go_wp2
    go_roundw
    case rel=>exact ⟨k+1,by omega,by go_num,R2.out,HST.out⟩
    case measure=>simp [intOf]; omega
   ·rw [byteVs_len] at hpos hcap he
    simp only [Value.slice.injEq] at he
    obtain ⟨rfl,_,rfl⟩:=he
    have hjm:k % p.length < p.length:=Nat.mod_lt _ hpos
    have hcell:=hc (k % p.length) (.int .u8 (p[k % p.length].toNat:Nat)) (by unfold byteVs; rw [List.getElem?_map,List.getElem?_eq_getElem hjm]; rfl)
    have hg:p.getD (k % p.length) 0=p[k % p.length]:=by rw [List.getD_eq_getElem?_getD,List.getElem?_eq_getElem hjm]; rfl
    have hfx:fate p k=p[k % p.length].toNat % 3:=by unfold fate; rw [if_neg (by omega),hg]
    have hem:((k:Int) % (p.length:Int))=((k % p.length:Nat):Int):=by omega
    have htm:Int.tmod (k:Int) (p.length:Int)=((k % p.length:Nat):Int):=by rw [Int.tmod_eq_emod_of_nonneg (Int.natCast_nonneg _)]; exact hem
    have hz:((p.length:Int) == 0)=false:=by rw [beq_eq_false_iff_ne]; omega
    have hy0:(0:Int)≤((k % p.length:Nat):Int):=Int.natCast_nonneg _
    have hy1:((k % p.length:Nat):Int) < (p.length:Int):=by omega
    have hxb:=UInt8.toNat_lt p[k % p.length]
    have hwx:IntKind.i64.wrap ((p[k % p.length].toNat:Nat):Int)=((p[k % p.length].toNat:Nat):Int):=by rw [IntKind.wrap_i64]; omega
    generalize k % p.length=y at *
    have hx3:Int.tmod ((p[y].toNat:Nat):Int) 3=((fate p k:Nat):Int):=by rw [Int.tmod_eq_emod_of_nonneg (Int.natCast_nonneg _),hfx]; omega
    generalize p[y].toNat=x at *
    clear hp hc hg hfx hcap hltp hem hjm hxb
    rcases (show fate p k=0∨fate p k=1∨fate p k=2 by omega) with hF | hF | hF
    ·rw [hF] at hx3
     have R2:Hid (RefRaw wr F g (d.part (fate p) (k+1)) (.slice (some ⟨b,0,none⟩) d.safe.length cap) (.slice (some ⟨q,0,none⟩) d.waits.length capq)):=by
      show RefRaw _ _ _ _ _ _
      rw [HPT.out 0 hF]
      exact HRR.out
     clear hF hf3
     go_wp2
     go_roundw
     case rel=>exact ⟨k+1,by omega,by go_num,R2.out,HST.out⟩
     case measure=>simp [intOf]; omega
    ·rw [hF] at hx3
     obtain ⟨r2,s2⟩:=HRR.out.drew.stored HL1.out.symm j s
     have R2:Hid (RefRaw (wr.drew.setCell ⟨b,j,none⟩ (.string s)) F g (d.part (fate p) (k+1)) (.slice (some ⟨b,0,none⟩) d.safe.length cap) (.slice (some ⟨q,0,none⟩) d.waits.length capq)):=by
      show RefRaw _ _ _ _ _ _
      rw [HPT.out 1 hF]
      exact r2
     have S2:=Lib.hid (HST.out.drew.trans s2)
     clear hF hf3 r2 s2
     go_wp2_with fail
     go_still_tail 21,(by kernel_rfl)
     go_wp2
     go_roundw
     case rel=>exact ⟨k+1,by omega,by go_num,R2.out,S2.out⟩
     case measure=>simp [intOf]; omega
    ·rw [hF] at hx3
     have HH:=Lib.hid hF
     clear hF hf3
     go_wp2_with fail
     refine' wp_region_conf 14 [.is _,.is _,.is _,.is _,.is _,.is _,.is _,.is _,.is _,.is _,.is _,.is _,.is _,.is _] (by kernel_rfl) (by kernel_rfl) (by kernel_rfl) (by kernel_rfl) rfl ?main
     case main =>
      iterate 14
       refine obs_is (fun w2 hE2 _=>?_) ?_
       ·have r2:=HRR.out.drew.below hE2
        obtain ⟨d0,d1,_⟩:=r2.cells
        have hw2:=r2.wait
        have q2:=(hw2.cellAt (k*2) (by show k*2 < d.waits.length*2; omega)).trans HE0.out
        clear r2 hw2
        go_wp2_with (go_at_call 34; refine (refZero_any _).mono ?_; rintro e w3 ⟨rfl,hb3⟩)
        first | exact post_is hb3 | exact post_is (Below.refl _ _)
       simp only [Act.put,sA,sB,sC]
      refine obs_end fun w3 hE3 _=>?_
      have r3:=HRR.out.drew.below hE3
      have hsafe:=own_below HSF.out.drew hE3
      have e1:=(hsafe.cellAt j (by omega)).trans HU.out
      have f1:=hsafe.frozenAt j
      obtain ⟨r2,s2⟩:=r3.stored HL1.out.symm j zero128
      have R2:Hid (RefRaw (w3.setCell ⟨b,j,none⟩ (.string zero128)) F g (d.part (fate p) (k+1)) (.slice (some ⟨b,0,none⟩) d.safe.length cap) (.slice (some ⟨q,0,none⟩) d.waits.length capq)):=by
       show RefRaw _ _ _ _ _ _
       rw [HPT.out 2 HH.out]
       exact r2
      have S2:=Lib.hid ((HST.out.drew.more hE3).trans s2)
      clear r2 s2 hsafe r3
      change wpList _ _ _ _ _ _
      go_wp2
      go_roundw
      case rel=>exact ⟨k+1,by omega,by go_num,R2.out,S2.out⟩
      case measure=>simp [intOf]; omega
  ·obtain rfl:k=d.waits.length:=by omega
   obtain ⟨hf,sf⟩:=hr.reset
   have f1:=hr.frozen 1
   have f2:=hr.frozen 2
   have f3:=hr.frozen 3
   have HF:=Lib.hid hf
   have SF:=Lib.hid (hst.trans sf)
   clear hf sf hr hst
   go_wp2
   go_end0
   exact ⟨rfl,HF.out,SF.out⟩
end
end Go.Proofs.YthkbcfhjmnpggaaGreat

namespace Go.Proofs.YthkbcfhjmnpggaaGreat
open Go.RowKit
section
variable {w:World} {F:Foot} {g:Nat} {d:Dk}
theorem at_steps (d:Dk) (i:Int):∃ rd:Nat→ByteArray,rd 0=d.safe.getD i.toNat zero128∧(∀ k (h:k < d.waits.length),rd (k+1)=if (d.waits[k].1:Int)=i then d.waits[k].2 else rd k)∧rd d.waits.length=d.at_ i:=by
 refine ⟨fun k=>(lastOf (d.waits.take k) i).getD (d.safe.getD i.toNat zero128),rfl,fun k h=>?_,by simp only [List.take_length]; rfl⟩
 show (lastOf (d.waits.take (k+1)) i).getD _=_
 rw [List.take_add_one,List.getElem?_eq_getElem h]
 show (lastOf (d.waits.take k++[d.waits[k]]) i).getD _=_
 rw [lastOf_snoc]
 split <;> rfl
set_option maxRecDepth 100000 in
set_option maxHeartbeats 4000000 in
theorem refRead_ok (ho:d.Ok) (h:IsRef w F g d) (k:Nat) (hi:d.has k) (hgone:d.gone=false) (s:ByteArray) (hs:d.at_ k=s) :
 Calls Tryz.prog 58 #[.pointer (some ⟨g,0,none⟩),.int .i64 k] w fun e w'=>e=.returned (.tuple #[.string s,.int .i64 0])∧w=w':=by
 obtain ⟨rd,hr0,hr1,hr2⟩:=at_steps d k
 rw [hs] at hr2
 obtain ⟨vs,vq,r⟩:=h
 obtain ⟨b,cap,rfl,hcap⟩:=own_head ho r.safe
 obtain ⟨qa,capq,rfl,hqm⟩:∃ qa capq,vq=.slice qa d.waits.length capq∧d.waits.length≤9223372036854775807:=by
  rcases own_any r.wait with ⟨rfl,h0,_⟩ | ⟨q,capq,rfl,hq,hqm⟩
  · exact ⟨none,0,by rw [h0],by omega⟩
  · exact ⟨_,capq,rfl,by unfold maxLen at hqm; omega⟩
 have hn:=ho.le
 obtain ⟨c0,c1,c2,_⟩:=r.cells
 rw [hgone] at c2
 have hk:k < d.safe.length:=by have:=hi.2; omega
 have cell:=r.safe.cellAt k (by omega)
 have hx:(strsV d.safe)[k]? = some (.string (rd 0)):=by
  rw [hr0]
  unfold strsV
  rw [List.getElem?_map,List.getElem?_eq_getElem hk]
  simp [List.getD_eq_getElem?_getD,List.getElem?_eq_getElem hk]
 rw [hx] at cell
 have hk0:(0:Int)≤(k:Int):=Int.natCast_nonneg _
 have hk1:(k:Int) < (d.safe.length:Int):=by omega
 have hk2:¬ d.safe.length≤k:=by omega
 have HW:=Lib.hid r.wait
 have HR1:=Lib.hid hr1
 have HR2:=Lib.hid hr2
 clear hx hr0 hr1 hr2 r ho hs hi hk
 go_enter Tryz.func58,Tryz.ntmps58
 go_wp2
 go_loopw [6,7] (fun vx vk wr=>∃ j:Nat,j≤d.waits.length∧vk=.int .i64 j∧vx=.string (rd j)∧w=wr) (fun _ vk _=>d.waits.length - (intOf vk).toNat)
 case atStart=>exact ⟨0,Nat.zero_le _,rfl,rfl,rfl⟩
 case round =>
  obtain ⟨j,hj,rfl,rfl,rfl⟩:=hrel
  by_cases hlt:j < d.waits.length
  ·have hkl:=hlt
   rcases own_any HW.out with ⟨_,h0,_⟩ | ⟨q,capq',hqe,_,_⟩
   · exact absurd h0 (by omega)
   simp only [Value.slice.injEq] at hqe
   obtain ⟨rfl,_,rfl⟩:=hqe
   obtain ⟨e0,e1⟩:=waitsV_at d.waits j hkl
   have q0:=(HW.out.cellAt (j*2) (by omega)).trans e0
   have q1:=(HW.out.cellAt (j*2+1) (by omega)).trans e1
   have hstep:=HR1.out j hkl
   generalize d.waits[j].1=x at *
   generalize d.waits[j].2=s' at *
   by_cases hxk:(x:Int)=(k:Int)
   ·rw [if_pos hxk] at hstep
    have hq:((x:Int) == (k:Int))=true:=by simpa using hxk
    have hxn:x=k:=by omega
    have HS:=Lib.hid hstep
    clear hstep e0 e1
    go_wp2
    go_roundw
    case rel=>exact ⟨j+1,by omega,by go_num,by rw [HS.out],by first | rfl | trivial⟩
    case measure=>simp [intOf]; omega
   ·rw [if_neg hxk] at hstep
    have hq:((x:Int) == (k:Int))=false:=by simpa using hxk
    have hxn:¬ x=k:=by omega
    have HS:=Lib.hid hstep
    clear hstep e0 e1
    go_wp2
    go_roundw
    case rel=>exact ⟨j+1,by omega,by go_num,by rw [HS.out],by first | rfl | trivial⟩
    case measure=>simp [intOf]; omega
  ·obtain rfl:j=d.waits.length:=by omega
   rw [HR2.out]
   go_wp2
   go_ret2
   exact ⟨rfl,rfl⟩
end
end Go.Proofs.YthkbcfhjmnpggaaGreat

namespace Go.Proofs.YthkbcfhjmnpggaaGreat
open Go.RowKit
theorem RefRaw.resafe {W w1:World} {F:Foot} {g:Nat} {d:Dk} {vs vq:Value} (h:RefRaw W F g d vs vq) (l:List ByteArray) {v':Value} (hown:w1.ownsRow 0 9 1 v' l.length (strsV l))
 (hst:Step F F W w1) (hfar:∀ b,b < W.heap.size→vs.ownBlock≠some b→w1.heap[b]? = W.heap[b]?) (hat:∀ b,v'.ownBlock=some b→F b∨W.heap.size≤b) :
 RefRaw (w1.setCell ⟨g,0,none⟩ v') (fun b=>F b∨v'.ownBlock=some b) g { d with safe:=l } v' vq∧Step F (fun b=>F b∨v'.ownBlock=some b) W (w1.setCell ⟨g,0,none⟩ v'):=by
 have lt:=h.lt
 have hh:Blk w1 g 65 (refCells vs vq d.gone (refFuse d.fuse)):=(hfar g (lt g h.fg) h.gs).trans h.head
 have hv:v'.ownBlock≠some g:=own_blk hown hh (by decide)
 have set:∀ b,b≠g→(w1.setCell ⟨g,0,none⟩ v').heap[b]? = w1.heap[b]?:=fun b hb=>heap_setCell_other w1 ⟨g,0,none⟩ b _ hb
 have hs2:Step F (fun b=>F b∨v'.ownBlock=some b) W w1:=⟨hst.os,hst.tape,hst.output,hst.size,hst.block,fun b hb=>hb.elim .inl (hat b)⟩
 refine ⟨⟨hh.set 0 v',?_,?_,.inl h.fg,fun b hb=>.inr hb,fun b hb=>.inl (h.fq b hb),fun b hb=>?_⟩,hs2.set (p:=⟨g,0,none⟩) (.inl h.fg) _⟩
 · exact own_keep (w':=w1.setCell ⟨g,0,none⟩ v') hown fun b hb=>set b (fun e=>hv (by rw [hb,e]))
 · exact own_keep h.wait fun b hb=>(set b (fun e=>h.gq (by rw [hb,e]))).trans (hfar b (lt b (h.fq b hb)) (fun e=>h.sq e hb))
 ·show b < (w1.setCell _ _).heap.size
  rcases hb with hb | hb
  · have:=lt b hb; have:=hst.size; simp [World.setCell]; omega
  · have:=(hown.lt b hb).2; simpa [World.setCell] using this
def Dk.amid (k:Nat):Dk:=⟨List.replicate k zero128,[],false,none⟩
theorem amid_len (k:Nat):(Dk.amid k).safe.length=k:=by simp [Dk.amid]
theorem amid_snoc (k:Nat):List.replicate k zero128++[zero128]=List.replicate (k+1) zero128:=by rw [List.replicate_succ']
theorem ref_start (w:World):RefRaw (w.alloc (.cells (refCells (.slice none 0 0) (.slice none 0 0) false (-1)) 65)) (fun b=>b=w.heap.size) w.heap.size (Dk.amid 0) (.slice none 0 0) (.slice none 0 0) :=
 ⟨Blk.new _ _ _,World.ownsRow_nil _ _ _ _,World.ownsRow_nil _ _ _ _,rfl,fun b hb=>by simp [Value.ownBlock] at hb,fun b hb=>by simp [Value.ownBlock] at hb,fun b hb=>by rw [hb]; simp⟩
set_option maxRecDepth 100000 in
set_option maxHeartbeats 8000000 in
theorem refNew_any (n:Nat) (w:World) (hn:n≤500) :
 Calls Tryz.prog 5 #[.int .i64 n] w fun e w'=>∃ g F,e=.returned (.pointer (some ⟨g,0,none⟩))∧IsRef w' F g (Dk.new n)∧(∀ b,F b→w.heap.size≤b)∧Below w.heap.size w w':=by
 obtain ⟨i0,hi0,hz0,hz1,hz2⟩:=info_parts info_string
 have HS:=Lib.hid (ref_start w)
 go_enter Tryz.func5,Tryz.ntmps5
 go_wp2
 go_loopw [4] (fun vk wr=>∃ (k:Nat) (F:Foot) (vs:Value),k≤n∧vk=.int .i64 k∧RefRaw wr F w.heap.size (Dk.amid k) vs (.slice none 0 0)∧(∀ b,F b→w.heap.size≤b)∧Below w.heap.size w wr) (fun vk _=>n - (intOf vk).toNat)
 case atStart=>exact ⟨0,_,_,Nat.zero_le _,rfl,HS.out,fun b hb=>by rw [hb]; exact Nat.le_refl _,(Below.refl _ _).alloc (Nat.le_refl _) _⟩
 case round =>
  obtain ⟨k,F,vs,hk,rfl,hr,hF,hb⟩:=hrel
  clear HS
  by_cases hlt:k < n
  ·obtain ⟨va,vc,hvs⟩:=own_slice hr.safe
   rw [amid_len] at hvs
   subst hvs
   have HR:=Lib.hid hr
   have HB:=Lib.hid hb
   have HF:=Lib.hid hF
   clear hr hb hF
   go_wp2_with fail
   refine' wp_region_free [0] 7 [.is (.pointer (some ⟨w.heap.size,0,none⟩)),.is _,.is _,.is _,.is _,.is _,.slice wr.heap.size 1 9 #[.string zero128]] (by kernel_rfl) (by kernel_rfl) (by kernel_rfl) (by kernel_rfl) (by kernel_rfl) rfl ⟨rfl,trivial⟩ (fun _ _ _ _ _ h=>h) ?main
   case main =>
    iterate 6
     refine obs_is (fun w5 hE2 _=>?_) ?_
     ·have r2:=HR.out.drew.below hE2
      obtain ⟨d0,_⟩:=r2.cells
      clear r2
      go_wp2_with (go_at_call 34; refine (refZero_any _).mono ?_; rintro e w3 ⟨rfl,hb3⟩)
      first | exact post_is hb3 | exact post_is (Below.refl _ _)
     simp only [Act.put,sA,sB,sC]
    refine obs_slice (fun w5 hE2 _=>?_) (fun q=>?_)
    ·go_wp2
     exact ⟨_,rfl,⟨w5.heap.size,hE2.size,rfl,Blk.new _ _ _⟩,(Below.refl _ _).alloc (Nat.le_refl _) _⟩
    simp only [Act.put,sA,sB,sC]
    refine obs_end fun w5 hE3 hkn=>?_
    obtain ⟨g2,_,rfl,hb2⟩:=hkn _ (List.mem_cons_self)
    have r3:=HR.out.drew.below hE3
    have hB5:=Lib.hid (below2 HB.out.drew hE3)
    have hown:=r3.safe
    have lg:=r3.lt _ r3.fg
    have nq:=r3.gs
    have c3:=r3.cells.1
    have f3:=r3.frozen 0
    have R3:=Lib.hid r3
    rw [amid_len] at hown
    clear r3 hkn
    go_wp2_with (at_builtin; refine wpList_append_own_at _ rfl (.tmp 16) (.tmp 18) 62 rfl 0 9 i0 (.string ⟨#[]⟩) 1 16 Tryz.underlying62 hi0 hz0 hz1 hz2 rfl (by decide) _ _ _ rfl hown ⟨g2,0,none⟩ 1 1 [.string zero128] rfl rfl (World.news_of_block hb2) (by simp [Value.oneCell']) (by simp only [maxLen]; omega) (by omega) (Nat.zero_le _) ?_)
    intro v' w6 hown6 hgrow _ hat
    obtain ⟨r6,s6⟩:=R3.out.resafe (v':=v') (List.replicate (k+1) zero128) (by
     rw [List.length_replicate,← amid_snoc,show strsV (List.replicate k zero128++[zero128])=strsV (List.replicate k zero128)++[.string zero128] from by simp [strsV]]
     exact hown6) ((Step.refl F _).grown hgrow R3.out.fs) (fun b hb hne=>hgrow.block b hb (Ne.symm hne)) (fun b hb=>by
      rcases hat with e | e
      · rw [e] at hb; exact .inl (R3.out.fs b hb)
      · rw [e] at hb; cases hb; exact .inr (Nat.le_refl _))
    have hF6:∀ b,(F b∨v'.ownBlock=some b)→w.heap.size≤b:=s6.from_ HF.out hB5.out.size
    have hB6:=s6.belowB HF.out hB5.out hB5.out.size
    have R6:=Lib.hid r6
    have HF6:=Lib.hid hF6
    have HB6:=Lib.hid hB6
    have f6:=(hgrow.frozen_far ⟨w.heap.size,0,none⟩ lg (Ne.symm nq)).trans f3
    have c6:=(hgrow.cell_far ⟨w.heap.size,0,none⟩ lg (Ne.symm nq)).trans c3
    obtain ⟨gg,cap,hv,_⟩:=own_len hown6
    subst hv
    clear r6 s6 hF6 hB6 hown6 hgrow hat hown c3 f3 hb2
    go_wp2
    go_roundw
    case rel=>exact ⟨k+1,_,_,by omega,by go_num,R6.out,HF6.out,HB6.out⟩
    case measure=>simp [intOf]; omega
  ·obtain rfl:k=n:=by omega
   have HD:Hid (IsRef wr F w.heap.size (Dk.new k)):=⟨_,_,hr⟩
   clear hr
   go_wp2
   go_ret
   exact ⟨_,_,rfl,HD.out,hF,hb⟩
end Go.Proofs.YthkbcfhjmnpggaaGreat

namespace Go.Proofs.YthkbcfhjmnpggaaGreat
open Go.RowKit
def Wl.B (l:Wl):List ByteArray:=l.secs.map bodyS++if l.first=l.end_ then [(⟨#[]⟩:ByteArray)] else []
theorem Wl.B_idle {l:Wl} (h:l.first=l.end_):l.B=l.secs.map bodyS++[(⟨#[]⟩:ByteArray)]:=by unfold Wl.B; rw [if_pos h]
theorem Wl.B_open {l:Wl} (h:¬ l.first=l.end_):l.B=l.secs.map bodyS:=by unfold Wl.B; rw [if_neg h,List.append_nil]
theorem Wl.B_len {l:Wl} (ok:l.Ok):1≤l.B.length∧l.B.length≤65:=by
 have:=ok.len; have:=ok.s64; have:=ok.fl; have:=ok.fe
 by_cases h:l.first=l.end_
 · rw [Wl.B_idle h]; simp; omega
 · rw [Wl.B_open h]; unfold Wl.end_ at *; simp; omega
def rlogCells (gd:Nat) (l:Wl) (vb:Value):Array Value:=#[.pointer (some ⟨gd,0,none⟩),.int .i64 l.base,.int .i64 l.size,.int .i64 l.low,.int .i64 l.first,.int .i64 l.epoch,vb]
structure RLR (w:World) (F:Foot) (g gd:Nat) (l:Wl) (vb:Value) (n:Nat) (bs:List ByteArray):Prop where
 head:Blk w g 69 (rlogCells gd l vb)
 rows:w.ownsRow 0 9 1 vb n (strsV bs)
 fg:F g
 fv:∀ b,vb.ownBlock=some b→F b
 lt:∀ b,F b→b < w.heap.size
def IsRL (w:World) (F:Foot) (g gd:Nat) (l:Wl):Prop:=l.Ok∧∃ vb,RLR w F g gd l vb l.B.length l.B
namespace RLR
variable {w w':World} {F:Foot} {g gd:Nat} {l:Wl} {vb:Value} {n:Nat} {bs:List ByteArray}
theorem keep (h:RLR w F g gd l vb n bs) (hk:∀ b,F b→w'.heap[b]? = w.heap[b]?) (hs:w.heap.size≤w'.heap.size):RLR w' F g gd l vb n bs :=
 ⟨(hk g h.fg).trans h.head,own_keep h.rows fun b hb=>hk b (h.fv b hb),h.fg,h.fv,fun b hb=>Nat.lt_of_lt_of_le (h.lt b hb) hs⟩
theorem below (h:RLR w F g gd l vb n bs) (hb:Below w.heap.size w w'):RLR w' F g gd l vb n bs:=h.keep (fun b hF=>hb.block b (h.lt b hF)) hb.size
theorem cells (h:RLR w F g gd l vb n bs):w.cell? ⟨g,0,none⟩=some (.pointer (some ⟨gd,0,none⟩))∧w.cell? ⟨g,1,none⟩=some (.int .i64 l.base)∧w.cell? ⟨g,2,none⟩=some (.int .i64 l.size)∧w.cell? ⟨g,3,none⟩=some (.int .i64 l.low) ∧
 w.cell? ⟨g,4,none⟩=some (.int .i64 l.first)∧w.cell? ⟨g,5,none⟩=some (.int .i64 l.epoch)∧w.cell? ⟨g,6,none⟩=some vb :=
 ⟨h.head.cell 0,h.head.cell 1,h.head.cell 2,h.head.cell 3,h.head.cell 4,h.head.cell 5,h.head.cell 6⟩
theorem vg (h:RLR w F g gd l vb n bs):vb.ownBlock≠some g:=own_blk h.rows h.head (by decide)
theorem stored {g2 cap:Nat} (h:RLR w F g gd l (.slice (some ⟨g2,0,none⟩) n cap) n bs) (j:Nat) (s:ByteArray) :
 RLR (w.setCell ⟨g2,j,none⟩ (.string s)) F g gd l (.slice (some ⟨g2,0,none⟩) n cap) n (bs.set j s)∧Step F F w (w.setCell ⟨g2,j,none⟩ (.string s)):=by
 have hb:(Value.slice (some ⟨g2,0,none⟩) n cap).ownBlock=some g2:=rfl
 have so:=(h.rows.stored j (.string s)).1
 rw [LogR.strsV_set'] at so
 exact ⟨⟨(heap_setCell_other w ⟨g2,j,none⟩ g _ fun e=>h.vg (by rw [hb,e])).trans h.head,so,h.fg,h.fv,fun c hc=>by simpa [World.setCell] using h.lt c hc⟩,(Step.refl F w).set (p:=⟨g2,j,none⟩) (h.fv g2 hb) _⟩
theorem pushed (h:RLR w F g gd l vb n bs) {gg cap:Nat} {s:ByteArray} (hown:w'.ownsRow 0 9 1 (.slice (some ⟨gg,0,none⟩) (n+1) cap) (n+1) (strsV bs++[.string s])) (hg:w.grownBy w' vb.ownBlock) (hat:vb.ownBlock=some gg∨gg=w.heap.size) (hlt:gg < w'.heap.size) :
 RLR (w'.setCell ⟨g,6,none⟩ (.slice (some ⟨gg,0,none⟩) (n+1) cap)) (fun b=>F b∨b=gg) g gd l (.slice (some ⟨gg,0,none⟩) (n+1) cap) (n+1) (bs++[s])∧Step F (fun b=>F b∨b=gg) w (w'.setCell ⟨g,6,none⟩ (.slice (some ⟨gg,0,none⟩) (n+1) cap)):=by
 have hh:Blk w' g 69 (rlogCells gd l vb):=(hg.block g h.head.lt fun e=>h.vg e.symm).trans h.head
 have hne:gg≠g:=fun e=>own_blk hown hh (by decide) (by rw [← e]; rfl)
 refine ⟨⟨hh.set 6 _,?_,.inl h.fg,fun b hb=>by simp only [Value.ownBlock,Option.some.injEq] at hb; exact .inr hb.symm,fun b hb=>?_⟩,?_⟩
 ·rw [show strsV (bs++[s])=strsV bs++[.string s] by simp [strsV]]
  exact own_keep hown fun b hb=>heap_setCell_other w' ⟨g,6,none⟩ b _ fun e=>by simp only [Value.ownBlock,Option.some.injEq] at hb; exact hne (by rw [hb,e])
 ·have:b < w'.heap.size:=by
   rcases hb with hb | rfl
   · exact Nat.lt_of_lt_of_le (h.lt b hb) hg.size
   · exact hlt
  simpa [World.setCell] using this
 ·refine Step.set (w':=w') ?_ (p:=⟨g,6,none⟩) (.inl h.fg) _
  exact ⟨hg.os,hg.tape,hg.output,hg.size,fun b hb hf=>hg.block b hb fun e=>hf (h.fv b e.symm),fun b hb=>hb.elim .inl fun e=>by
   subst e
   rcases hat with hat | hat
   · exact .inl (h.fv b hat)
   · exact .inr (by omega)⟩
theorem setFirst (h:RLR w F g gd l vb n bs) (x:Nat) :
 RLR (w.setCell ⟨g,4,none⟩ (.int .i64 x)) F g gd { l with first:=x } vb n bs∧Step F F w (w.setCell ⟨g,4,none⟩ (.int .i64 x)) :=
 ⟨⟨h.head.set 4 _,own_keep h.rows fun b hb=>heap_setCell_other w ⟨g,4,none⟩ b _ fun e=>h.vg (by rw [hb,e]),h.fg,h.fv,fun c hc=>by simpa [World.setCell] using h.lt c hc⟩,(Step.refl F w).set (p:=⟨g,4,none⟩) h.fg _⟩
end RLR
theorem IsRL.below {w w':World} {F:Foot} {g gd:Nat} {l:Wl} (h:IsRL w F g gd l) (hb:Below w.heap.size w w'):IsRL w' F g gd l:=⟨h.1,h.2.elim fun vb r=>⟨vb,r.below hb⟩⟩
theorem IsRL.lt {w:World} {F:Foot} {g gd:Nat} {l:Wl} (h:IsRL w F g gd l):∀ b,F b→b < w.heap.size:=h.2.elim fun _ r=>r.lt
theorem IsRL.keep {w w':World} {F:Foot} {g gd:Nat} {l:Wl} (h:IsRL w F g gd l) (hk:∀ b,F b→w'.heap[b]? = w.heap[b]?) (hs:w.heap.size≤w'.heap.size):IsRL w' F g gd l:=⟨h.1,h.2.elim fun vb r=>⟨vb,r.keep hk hs⟩⟩
section
variable {w:World} {F:Foot} {g gd:Nat} {l:Wl} {vb:Value} {n:Nat} {bs:List ByteArray}
set_option maxRecDepth 100000 in
set_option maxHeartbeats 2000000 in
theorem rlOpen_any (h:RLR w F g gd l vb (n+1) bs) (hl:l.low≤2147483647) (hn:n≤65):Calls Tryz.prog 42 #[.pointer (some ⟨g,0,none⟩)] w (Peeks w (.int .i64 ((l.low+n:Nat):Int))):=by
 obtain ⟨va,vc,hvs⟩:=own_slice h.rows
 subst hvs
 obtain ⟨_,_,_,c3,_,_,c6⟩:=h.cells
 have h1:(l.low:Int)≤2147483647:=by omega
 have h2:(n:Int)+1≤66:=by omega
 have e:((l.low+n:Nat):Int)=(l.low:Int)+((n:Int)+1) - 1:=by omega
 rw [e]
 clear h e hl hn
 generalize l.low=x at *
 go_enter Tryz.func42,Tryz.ntmps42
 go_wp2
 go_quiet (fail)
 go_wp2
 go_ret
 exact ⟨rfl,_,rfl⟩
set_option maxRecDepth 100000 in
set_option maxHeartbeats 4000000 in
theorem rlMay_any {D:Dk} {FD:Foot} (h:IsRef w FD gd D) (ok:D.Ok) (base n:Nat) (hb:base≤512) (yes:Bool) (hy:yes=decide (8≤n∧n≤64∧base+n≤D.safe.length)) :
 Calls Tryz.prog 36 #[.pointer (some ⟨gd,0,none⟩),.int .i64 base,.int .i64 n] w fun e w'=>e=.returned (.bool yes)∧w=w':=by
 obtain ⟨vs,vq,r⟩:=h
 obtain ⟨b,cap,rfl,hcap⟩:=own_head ok r.safe
 obtain ⟨c0,_⟩:=r.cells
 have hle:=ok.le
 have hlI:(D.safe.length:Int)≤512:=by omega
 have hbI:(base:Int)≤512:=by omega
 clear r hcap ok
 generalize D.safe.length=m at *
 by_cases h8:8≤n
 ·have h8I:(8:Int)≤n:=by omega
  have d8:decide (8≤n)=true:=by simp [h8]
  by_cases h64:n≤64
  ·have h64I:(n:Int)≤64:=by omega
   have d64:decide (n≤64)=true:=by simp [h64]
   by_cases hr:base+n≤m
   ·obtain rfl:yes=true:=by rw [hy]; simp [h8,h64,hr]
    have hrI:(base:Int)≤(m:Int) - n:=by omega
    clear hy h8 h64 hr hle
    go_enter Tryz.func36,Tryz.ntmps36
    go_wp2
    go_ret
    exact ⟨by simp,rfl⟩
   ·obtain rfl:yes=false:=by rw [hy]; simp [hr]
    have hrI:¬ (base:Int)≤(m:Int) - n:=by omega
    clear hy h8 h64 hr hle
    go_enter Tryz.func36,Tryz.ntmps36
    go_wp2
    go_ret
    exact ⟨by simp,rfl⟩
  ·obtain rfl:yes=false:=by rw [hy]; simp [h64]
   have h64I:¬ (n:Int)≤64:=by omega
   clear hy h8 hle
   go_enter Tryz.func36,Tryz.ntmps36
   go_wp2
   go_ret
   exact ⟨by simp,rfl⟩
 ·obtain rfl:yes=false:=by rw [hy]; simp [h8]
  have h8I:¬ (8:Int)≤n:=by omega
  clear hy hle
  go_enter Tryz.func36,Tryz.ntmps36
  go_wp2
  go_ret
  exact ⟨by simp,rfl⟩
end
end Go.Proofs.YthkbcfhjmnpggaaGreat

namespace Go.Proofs.YthkbcfhjmnpggaaGreat
open Go.RowKit
def intsV (l:List Int):Array Value:=(l.map (Value.int .i64)).toArray
def allNum (l:List Int):Bool:=l.all fun n=>decide (Num n)
theorem allNum_no {l:List Int} {k:Nat} (h:k < l.length) (hn:¬ Num l[k]):allNum l=false:=by
 unfold allNum
 rw [List.all_eq_false]
 exact ⟨l[k],List.getElem_mem h,by simpa using hn⟩
theorem allNum_yes {l:List Int} (h:∀ k (hk:k < l.length),Num l[k]):allNum l=true:=by
 unfold allNum
 rw [List.all_eq_true]
 intro x hx
 obtain ⟨k,hk,rfl⟩:=List.mem_iff_getElem.1 hx
 simpa using h k hk
set_option maxRecDepth 100000 in
set_option maxHeartbeats 4000000 in
theorem num_any {w:World} {g:Nat} {l:List Int} (hb:Blk w g 3 (intsV l)) (hl:l.length≤100) (yes:Bool) (hy:yes=allNum l) :
 Calls Tryz.prog 70 #[.slice (some ⟨g,0,none⟩) l.length l.length] w fun e w'=>e=.returned (.bool yes)∧w=w':=by
 have HY:=Lib.hid hy
 have HB:=Lib.hid hb
 clear hy hb
 go_enter Tryz.func70,Tryz.ntmps70
 go_wp2
 go_loopw [3] (fun vk wr=>∃ k:Nat,k≤l.length∧vk=.int .i64 k∧(∀ j (hj:j < l.length),j < k→Num l[j])∧w=wr) (fun vk _=>l.length - (intOf vk).toNat)
 case atStart=>exact ⟨0,Nat.zero_le _,rfl,fun j _ h=>by omega,rfl⟩
 case round =>
  obtain ⟨k,hk,rfl,hno,rfl⟩:=hrel
  have HNO:=Lib.hid hno
  clear hno
  by_cases hlt:k < l.length
  ·have c:=HB.out.cell k
   rw [show (intsV l)[k]? = some (.int .i64 l[k]) from by simp [intsV,hlt]] at c
   by_cases hn:Num l[k]
   ·have HN2:Hid (∀ j (hj:j < l.length),j < k+1→Num l[j]):=fun j hj hjk=>by
     by_cases e:j=k
     · subst e; exact hn
     · exact HNO.out j hj (by omega)
    obtain ⟨h1,h2⟩:=hn
    generalize l[k]=x at *
    have h3:¬ x < 0:=by omega
    go_wp2
    go_roundw
    case rel=>exact ⟨k+1,by omega,by go_num,HN2.out,by first | rfl | trivial⟩
    case measure=>simp [intOf]; omega
   ·have hno:yes=false:=by rw [HY.out]; exact allNum_no hlt hn
    subst hno
    unfold Num at hn
    clear HY HNO
    generalize l[k]=x at *
    go_wp2
    all_goals
     go_ret
     exact ⟨rfl,rfl⟩
  ·have hyes:yes=true:=by rw [HY.out]; exact allNum_yes fun j hj=>HNO.out j hj (by omega)
   subst hyes
   clear HY HNO
   go_wp2
   go_ret
   exact ⟨rfl,rfl⟩
theorem spot_iff (r:Rc):Spot r.page r.off r.after↔(0≤r.page∧r.page≤7)∧0≤r.off∧r.off≤220∧(1≤(r.after.size:Int)∧(r.after.size:Int)≤16)∧r.off+(r.after.size:Int)≤220:=by
 unfold Spot
 omega
set_option maxRecDepth 100000 in
set_option maxHeartbeats 4000000 in
theorem refSpot_any {w:World} {v:Value} {r:Rc} (hv:IsRec w v r) (hs:r.after.size≤maxLen) (yes:Bool) (hy:yes=decide (Spot r.page r.off r.after)) :
 Calls Tryz.prog 71 #[v] w fun e w'=>e=.returned (.bool yes)∧Below w.heap.size w w':=by
 obtain ⟨vt,vp,rfl,hl⟩:=hv
 have HY:=Lib.hid hy
 clear hy hl
 unfold maxLen at hs
 unfold recV recCells
 go_enter Tryz.func71,Tryz.ntmps71
 go_wp2
 all_goals first
  | (have hno:yes=false:=by
      rw [HY.out]
      exact decide_eq_false (fun h=>by rw [spot_iff] at h; omega)
     subst hno
     clear HY
     go_ret
     exact ⟨rfl,(Below.refl _ _).alloc (Nat.le_refl _) _⟩)
  | (have hq:yes=decide (r.off+(r.after.size:Int)≤220):=by
      rw [HY.out]
      exact decide_eq_decide.2 (by rw [spot_iff]; omega)
     have HQ:=Lib.hid hq
     clear HY hq
     go_ret
     refine ⟨?_,(Below.refl _ _).alloc (Nat.le_refl _) _⟩
     show Ending.returned (.bool (decide (r.off+(r.after.size:Int)≤220)))=_
     rw [HQ.out])
end Go.Proofs.YthkbcfhjmnpggaaGreat
