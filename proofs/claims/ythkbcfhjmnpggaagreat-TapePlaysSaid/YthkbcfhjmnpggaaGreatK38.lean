/- Texts that belong together, joined: TaL, SlabBr, SlabD, SlabFr, TaU. -/
import Derived.Test.YthkbcfhjmnpggaaGreatK28
import Derived.Test.YthkbcfhjmnpggaaGreatK20
import Derived.Test.YthkbcfhjmnpggaaGreatK03
import Derived.Test.YthkbcfhjmnpggaaGreatK09
import Derived.Test.YthkbcfhjmnpggaaGreatK25
import Derived.Test.YthkbcfhjmnpggaaGreatK02
import Derived.Test.YthkbcfhjmnpggaaGreatK29
import Derived.Test.YthkbcfhjmnpggaaGreatK33
import Derived.Test.YthkbcfhjmnpggaaGreatK22
import Derived.Test.YthkbcfhjmnpggaaGreatK17
namespace Go.Proofs.YthkbcfhjmnpggaaGreat
open Go.RowKit
theorem own_base15 {w:World} {b0 e size n:Nat} {v:Value} {xs:List Value} (h:w.ownsRow b0 e size v n xs):w.ownsRow 0 e size v n xs:=by
 obtain ⟨hl,h | ⟨g,cap,cur,rfl,hb,h⟩⟩:=h
 · exact ⟨hl,.inl h⟩
 · exact ⟨hl,.inr ⟨g,cap,cur,rfl,Nat.zero_le _,h⟩⟩
theorem strs_from {q n cap:Nat} (p:Nat) (hp:p≤n) (hc:n≤cap) (xs:List Value) (hx:xs.length=n) :
 ∃ ad:Addr,(∀ W,(Instr.slice 62 (.slice (some ⟨q,0,none⟩) n cap) (some (.int .i64 p)) none none).run Tryz.prog W=.ok (.slice (some ad) (n - p) (cap - p)) W) ∧
  ∀ W:World,W.ownsRow 0 9 1 (.slice (some ⟨q,0,none⟩) n cap) n xs→∀ (k:Nat) (u:Value),(xs.drop p)[k]? = some u→W.cell? (ad.add k)=some u:=by
 have hs:=fun W=>run_slice_l (P:=Tryz.prog) W 62 (some ⟨q,0,none⟩) n cap cut_und .i64 p (by omega) (by omega)
 simp only [cut_elem,cut_size,Result.andThen,Int.toNat_natCast] at hs
 have e0:∀ k:Nat,(⟨q,0,none⟩:Addr).add k=⟨q,k,none⟩:=fun k=>by unfold Addr.add; split <;> simp_all
 by_cases hcp:cap=p
 ·refine ⟨⟨q,0,none⟩,fun W=>?_,fun W hW k u hk=>?_⟩
  ·rw [hs W]
   unfold sliced
   rw [if_pos hcp]
  ·have:=(List.getElem?_eq_some_iff.1 hk).1
   rw [List.length_drop,hx] at this
   omega
 ·refine ⟨⟨q,p,none⟩,fun W=>?_,fun W hW k u hk=>?_⟩
  ·rw [hs W]
   unfold sliced
   rw [if_neg hcp,Option.map_some,e0,Nat.mul_one]
  ·have e1:(⟨q,p,none⟩:Addr).add k=⟨q,p+k,none⟩:=by unfold Addr.add; split <;> simp_all
   rw [e1,← e0]
   rw [List.getElem?_drop] at hk
   exact hW.cells (g:=q) rfl _ u hk
theorem Wl.B_cut {l:Wl} (ok:l.Ok) {z:Nat} (h1:l.low≤z) (h2:z≤l.first):(l.cutTo z).B=l.B.drop (z - l.low):=by
 have hfe:=ok.fe
 unfold Wl.end_ at hfe
 have he:(l.cutTo z).end_=l.end_:=by unfold Wl.end_ Wl.cutTo; simp only [List.length_drop]; omega
 by_cases hf:l.first=l.end_
 ·rw [Wl.B_idle hf,Wl.B_idle (l:=l.cutTo z) (by rw [he]; exact hf)]
  rw [List.drop_append_of_le_length (by rw [List.length_map]; omega)]
  unfold Wl.cutTo
  simp only [List.map_drop]
 ·rw [Wl.B_open hf,Wl.B_open (l:=l.cutTo z) (by rw [he]; exact hf)]
  unfold Wl.cutTo
  simp only [List.map_drop]
set_option maxRecDepth 100000 in
set_option maxHeartbeats 4000000 in
theorem rlCut_any {w:World} {F:Foot} {g gd:Nat} {l:Wl} (h:IsRL w F g gd l) (x:Int) (hs:l.first≤2147483647) :
 Calls Tryz.prog 18 #[.pointer (some ⟨g,0,none⟩),.int .i64 x] w fun e w'=>e=.returned (.int .i64 (l.cutE x))∧∃ F',IsRL w' F' g gd (l.cutI x)∧Step F F' w w':=by
 have HL:=Lib.hid h
 obtain ⟨ok,vb,r⟩:=h
 obtain ⟨_,_,_,c3,c4,_,c6⟩:=r.cells
 have HOK:=Lib.hid ok
 have hlow:(l.low:Int)≤2147483647:=by have:=ok.lm; omega
 have hfst:(l.first:Int)≤2147483647:=by omega
 clear ok
 by_cases h1:x < l.low
 ·have e1:l.cutE x=2:=if_pos (.inl h1)
  have e2:l.cutI x=l:=if_pos (.inl h1)
  rw [e1,e2]
  clear r c4 c6 e1 e2
  generalize l.low=lo at *
  go_enter Tryz.func18,Tryz.ntmps18
  go_wp2
  go_ret
  exact ⟨rfl,F,HL.out,Step.refl _ _⟩
 ·by_cases h2:(l.first:Int) < x
  ·have e1:l.cutE x=2:=if_pos (.inr h2)
   have e2:l.cutI x=l:=if_pos (.inr h2)
   rw [e1,e2]
   clear r c6 e1 e2
   generalize l.low=lo at *
   generalize l.first=fi at *
   go_enter Tryz.func18,Tryz.ntmps18
   go_wp2
   go_ret
   exact ⟨rfl,F,HL.out,Step.refl _ _⟩
  ·obtain ⟨z,rfl⟩:=Int.eq_ofNat_of_zero_le (show 0≤x by omega)
   have e1:l.cutE z=0:=if_neg (by omega)
   have e2:l.cutI z=l.cutTo z:=by unfold Wl.cutI; rw [if_neg (by omega),Int.toNat_natCast]
   rw [e1,e2]
   have OK2:=Lib.hid (HOK.out.cutTo (z:=z) (by omega) (by omega) (by omega))
   have hBl:=Wl.B_len HOK.out
   have hBs:l.secs.length≤l.B.length:=by
    by_cases hf:l.first=l.end_
    · rw [Wl.B_idle hf]; simp
    · rw [Wl.B_open hf]; simp
   have hze:z - l.low≤l.B.length:=by have:=HOK.out.fe; unfold Wl.end_ at this; omega
   have hBC:=Wl.B_cut HOK.out (z:=z) (by omega) (by omega)
   obtain ⟨j,hj⟩:∃ j:Nat,z - l.low=j:=⟨_,rfl⟩
   rw [hj] at hBC hze
   obtain ⟨g2,cap,rfl,hcap,hcm⟩:=own_form r.rows (by omega)
   obtain ⟨ad,hsl,hnews⟩:=strs_from (q:=g2) (n:=l.B.length) (cap:=cap) j hze hcap (strsV l.B) (by simp [strsV])
   have hzj:(z:Int) - (l.low:Int)=(j:Int):=by omega
   have HR:=Lib.hid r
   have HFIN:Hid (∀ w8 w9 v',Below w.heap.size w w8→w9.ownsRow w.heap.size 9 1 v' (0+(l.B.length - j)) ([]++(strsV l.B).drop j)→Below w8.heap.size w8 w9∨Below w.heap.size w w9→Below w.heap.size w w9 →
    Blk w9 g 69 (rlogCells gd l (.slice (some ⟨g2,0,none⟩) l.B.length cap))∧IsRL ((w9.setCell ⟨g,6,none⟩ v').setCell ⟨g,3,none⟩ (.int .i64 z)) (fun b=>F b∨v'.ownBlock=some b) g gd (l.cutTo z)∧Step F (fun b=>F b∨v'.ownBlock=some b) w ((w9.setCell ⟨g,6,none⟩ v').setCell ⟨g,3,none⟩ (.int .i64 z))):=fun w8 w9 v' _ ho _ hb=>by
    have r9:=HR.out.below hb
    have hne:∀ b,v'.ownBlock=some b→b≠g:=fun b hb2 e=>by have:=(ho.lt b hb2).1; have:=HR.out.lt g HR.out.fg; omega
    have hst:Step F (fun b=>F b∨v'.ownBlock=some b) w w9:=⟨hb.os,hb.tape,hb.output,hb.size,fun b hlt _=>hb.block b hlt,fun b hF=>hF.elim .inl fun e=>.inr (ho.lt b e).1⟩
    refine ⟨r9.head,⟨OK2.out,v',?_,?_,.inl HR.out.fg,fun b hb2=>.inr hb2,fun b hF=>?_⟩,(hst.set (.inl HR.out.fg) _).set (.inl HR.out.fg) _⟩
    · exact (r9.head.set 6 v').set 3 (.int .i64 z)
    ·have hl2:(l.cutTo z).B.length=l.B.length - j:=by rw [hBC,List.length_drop]
     have hl3:strsV (l.cutTo z).B=(strsV l.B).drop j:=by rw [hBC]; unfold strsV; rw [List.map_drop]
     rw [hl2,hl3]
     have ho2:w9.ownsRow 0 9 1 v' (l.B.length - j) ((strsV l.B).drop j):=by
      have:=own_base15 ho
      simpa using this
     exact own_keep (own_keep ho2 fun b hb2=>heap_setCell_other w9 ⟨g,6,none⟩ b _ (hne b hb2)) fun b hb2=>heap_setCell_other _ ⟨g,3,none⟩ b _ (hne b hb2)
    ·have:b < w9.heap.size:=hF.elim (fun h=>Nat.lt_of_lt_of_le (HR.out.lt b h) hb.size) fun h=>(ho.lt b h).2
     simp only [World.setCell]
     simp
     omega
   have C0:Hid (∀ W,Below w.heap.size w W→W.cell? ⟨g,6,none⟩=some (.slice (some ⟨g2,0,none⟩) l.B.length cap)∧W.cell? ⟨g,3,none⟩=some (.int .i64 l.low)):=fun W hW=>by
    obtain ⟨_,_,_,c3,_,_,c6⟩:=(HR.out.below hW).cells
    exact ⟨c6,c3⟩
   have NEWS:Hid (∀ W,Below w.heap.size w W→∀ k u,((strsV l.B).drop j)[k]? = some u→W.cell? (ad.add k)=some u):=fun W hW=>hnews W (HR.out.below hW).rows
   have HBL:Hid (l.B.length≤65∧j≤l.B.length):=⟨hBl.2,hze⟩
   have H1:Hid ((∀ u ∈ (strsV l.B).drop j,u.oneCell' = true)∧((strsV l.B).drop j).length=l.B.length - j):=⟨fun u hu=>by obtain ⟨s,_,rfl⟩:=List.mem_map.1 (List.mem_of_mem_drop hu); rfl,by simp [strsV]⟩
   obtain ⟨i0,hi0,hz0,hz1,hz2⟩:=info_parts info_str
   have HI:=Lib.hid (And.intro hi0 (And.intro hz0 (And.intro hz1 hz2)))
   have hlow0:(0:Int)≤l.low:=by omega
   have hz64:(z:Int)≤2147483647:=by omega
   have hz0':(0:Int)≤(z:Int) - (l.low:Int):=by omega
   clear r hj e1 e2 hze hBs hBl hnews hBC hi0 hz0 hz1 hz2
   generalize strsV l.B=xs at *
   generalize l.B.length=bn at *
   generalize l.low=lo at *
   generalize l.first=fi at *
   go_enter Tryz.func18,Tryz.ntmps18
   go_upto_region 3 with fail
   have HZ:=Lib.hid (And.intro hlow (And.intro hz64 hz0'))
   have HZJ:=Lib.hid hzj
   clear hzj hz64 hz0' hlow hfst h1 h2 c3 c4 c6 hlow0 hcap hcm
   refine' wp_region_free [0] 13 (.is (.pointer (some ⟨g,0,none⟩))::.slice w.heap.size 0 9 #[]::.is _::.is _::.is _::.is _::.is _::.is _::.is _::.is _::.is _::.is (.int .i64 j)::.is _::[]) (by kernel_rfl) (by kernel_rfl) (by kernel_rfl) (by kernel_rfl) (by kernel_rfl) rfl ⟨rfl,trivial⟩ (fun _ _ _ _ _ h=>h) ?main
   case main =>
    refine obs_is (fun w8 hE2 _=>?_) ?_
    ·go_wp2_with fail
     exact post_is (Below.refl _ _)
    simp only [Act.put,sA,sB,sC]
    refine obs_slice (fun w8 hE2 _=>?_) (fun q1=>?_)
    ·go_wp2
     exact ⟨_,rfl,⟨w8.heap.size,hE2.size,rfl,Blk.new _ _ _⟩,(Below.refl _ _).alloc (Nat.le_refl _) _⟩
    simp only [Act.put,sA,sB,sC]
    iterate 9
     refine obs_is (fun w8 hE2 _=>?_) ?_
     ·obtain ⟨c6,c3⟩:=C0.out w8 ((Below.refl w.heap.size w).drew.trans hE2)
      clear hE2
      go_wp2_with fail
      exact post_is (Below.refl _ _)
     simp only [Act.put,sA,sB,sC]
    refine obs_is (d:=.int .i64 j) (fun w8 hE2 _=>?_) ?_
    ·obtain ⟨y1,y2,y3⟩:=HZ.out
     clear hE2
     go_wp2_with fail
     rw [HZJ.out]
     exact post_is (Below.refl _ _)
    simp only [Act.put,sA,sB,sC]
    refine obs_is (fun w8 hE2 _=>?_) ?_
    ·clear hE2
     go_wp2_with fail
     exact post_is (Below.refl _ _)
    simp only [Act.put,sA,sB,sC]
    refine obs_end fun w8 hE3 hkn=>?_
    obtain ⟨g5,hg5,rfl,hb5⟩:∃ g5,w.heap.size≤g5∧q1=.slice (some ⟨g5,0,none⟩) 0 0∧Blk w8 g5 9 #[]:=hkn _ (List.mem_cons_self ..)
    have hB8:=(Below.refl w.heap.size w).drew.trans hE3
    have OW:Hid (w8.ownsRow w.heap.size 9 1 (.slice (some ⟨g5,0,none⟩) 0 0) 0 []):=⟨rfl,.inr ⟨g5,0,#[],rfl,hg5,hb5,Nat.le_refl _,by decide,rfl,rfl⟩⟩
    have NW:=Lib.hid (NEWS.out w8 hB8)
    have HB8:=Lib.hid hB8
    have hbl:=HBL.out.1
    have hlen2:=H1.out.2
    clear hkn hE3 hB8 hb5 NEWS C0
    obtain ⟨hi0,hz0,hz1,hz2⟩:=HI.out
    change wpList _ _ _ _ _ _
    go_wp2_with (at_builtin; refine wpList_append_own _ rfl (.tmp 20) (.tmp 31) 62 rfl w.heap.size 9 i0 (.string ⟨#[]⟩) 1 16 Tryz.underlying62 hi0 hz0 hz1 hz2 rfl (by decide) _ _ _ rfl OW.out ad (bn - j) (cap - j) (xs.drop j) rfl (by rw [H1.out.2]; omega) NW.out H1.out.1 (by simp only [maxLen]; omega) (by omega) HB8.out.size ?_)
    intro v' w9 hown hgrow _
    have hB9:Below w.heap.size w w9:=HB8.out.grown hgrow HB8.out.size (fun k hk=>by simp [Value.ownBlock] at hk; omega)
    obtain ⟨fa,fb,fc⟩:=HFIN.out w8 w9 v' HB8.out (by simpa using hown) (.inr hB9) hB9
    have c6:=fa.cell 6
    have c3:=fa.cell 3
    have f6:=fa.frozen 6
    have f3:=fa.frozen 3
    simp [rlogCells] at c6 c3
    obtain ⟨a',c',hv'⟩:=own_slice hown
    have HFB:=Lib.hid fb
    have HFC:=Lib.hid fc
    clear hown hgrow fa fb fc HFIN HB8 HR HL HOK hB9 OW NW hbl hlen2 hi0 hz0 hz1 hz2
    subst hv'
    go_wp2_with fail
    go_ret
    exact ⟨rfl,_,HFB.out,HFC.out⟩
end Go.Proofs.YthkbcfhjmnpggaaGreat

namespace Go.Proofs.YthkbcfhjmnpggaaGreat
open Go.RowKit
theorem refStep_odd {m:Nat} (h:m < 4294967296) (ho:((m:Int) % 2 == 1)=true):bits .xor .u32 ((m:Int) / 2) 3988292384=(Crc.step m:Nat):=by
 have h1:m % 2=1:=by simp at ho; omega
 rw [xor_poly m h,Crc.step,if_pos h1]
theorem refStep_even {m:Nat} (ho:((m:Int) % 2 == 1)=false):((m:Int) / 2)=(Crc.step m:Nat):=by
 have h1:¬ m % 2=1:=by simp at ho; omega
 rw [Crc.step,if_neg h1]
 simp
set_option maxRecDepth 100000 in
set_option maxHeartbeats 1000000 in
theorem refSum_any (s:ByteArray) (w:World) (hs:s.size≤maxLen) :
 Calls Tryz.prog 80 #[.string s] w fun e w'=>e=.returned (.int .u32 (Crc.sum s.data.toList:Nat))∧Below w.heap.size w w':=by
 unfold maxLen at hs
 go_enter Tryz.func80,Tryz.ntmps80
 go_wp2
 go_loop [3,4,5] (fun n i _=>∃ k:Nat,k≤s.size∧i=.int .i64 k∧n=.int .u32 (crcTo s k:Nat)) (fun _ i _=>s.size - (intOf i).toNat)
 case atStart=>exact ⟨0,Nat.zero_le _,rfl,rfl⟩
 case round =>
  obtain ⟨k,hk',rfl,rfl⟩:=hrel
  have hl:=crcTo_lt s k
  have hL:=Lib.hid hl
  by_cases hlt:k < s.size
  ·have hbyte:(s[k].toNat:Int) < 256:=by have:=s[k].toNat_lt; omega
   have hx:=xor_u32 (a:=crcTo s k) (b:=s[k].toNat) hl (by have:=s[k].toNat_lt; omega)
   have hxl:=Crc.xor_lt (a:=crcTo s k) (b:=s[k].toNat) hl (by have:=s[k].toNat_lt; omega)
   have hS:Hid (stepN 8 (crcTo s k ^^^ s[k].toNat)=crcTo s (k+1)):=by
    show _=_
    rw [crcTo_succ s k hlt]
    rfl
   clear hl
   generalize crcTo s k ^^^ s[k].toNat=m0 at *
   have hM:=Lib.hid hxl
   clear hxl
   go_wp2
   clear hx
   go_loop [3,5] (fun n i=>∃ j:Nat,j≤8∧i=.int .i64 j∧n=.int .u32 (stepN j m0:Nat)) (fun _ i=>8 - (intOf i).toNat)
   case atStart=>exact ⟨0,by omega,rfl,rfl⟩
   case round =>
    obtain ⟨j,hj,rfl,rfl⟩:=hrel
    have hq:=stepN_lt hM.out j
    by_cases h8:j < 8
    ·go_wp2
     ·go_round
      case rel=>exact ⟨j+1,by omega,by go_num,by rw [refStep_odd hq (by assumption)]; rfl⟩
      case measure=>simp [intOf]; omega
     ·go_round
      case rel=>exact ⟨j+1,by omega,by go_num,by rw [refStep_even (by assumption)]; rfl⟩
      case measure=>simp [intOf]; omega
    ·have hj8:j=8:=by omega
     subst hj8
     go_wp2
     go_round
     case rel=>exact ⟨k+1,by omega,by go_num,by rw [← hS.out]⟩
     case measure=>simp [intOf]; omega
  ·clear hl
   obtain rfl:k=s.size:=by omega
   have hn:=Lib.hid (not_u32 hL.out)
   have hf:=Lib.hid (show crcTo s s.size=Crc.run 4294967295 s.data.toList by unfold crcTo; rw [List.take_of_length_le (by simp)])
   go_wp2
   go_ret
   exact ⟨by rw [hn.out,hf.out]; rfl,Below.refl _ _⟩
end Go.Proofs.YthkbcfhjmnpggaaGreat

namespace Go.Proofs.YthkbcfhjmnpggaaGreat
open Go.RowKit
def strSize:Value→Nat
 | .string s=>s.size
 | _=>0
set_option maxRecDepth 100000 in
set_option maxHeartbeats 2000000 in
theorem refPack_any (E I:Nat) (s:ByteArray) (w:World) (hE:E < 4294967296) (hI:I < 4294967296) (hl:s.size≤112) :
 Calls Tryz.prog 47 #[.agg #[.int .u32 E,.int .u32 I,.string s]] w fun e w'=>e=.returned (.string ⟨(sect E I s).toArray⟩)∧Below w.heap.size w w':=by
 go_enter Tryz.func47,Tryz.ntmps47
 go_wp2
 have hb0:=Blk.new w 105 #[.int .u32 E,.int .u32 I,.string s]
 have hB0:Below w.heap.size w (w.alloc (.cells #[.int .u32 E,.int .u32 I,.string s] 105)):=(Below.refl _ _).alloc (Nat.le_refl _) _
 generalize hg:w.heap.size=g at *
 have hG:=Lib.hid hg
 clear hg
 generalize w.alloc (.cells #[.int .u32 E,.int .u32 I,.string s] 105)=w1 at *
 have e18:#[Value.int .u8 0,.int .u8 s.size,.int .u8 0,.int .u8 0]=bytesV [0,UInt8.ofNat s.size,0,0]:=by
  simp [bytesV]; omega
 have H18:=Lib.hid e18
 clear e18
 have hadd:∀ W,(Op.stringOp .add (({ data:=(be4 E).toArray }:ByteArray)++{ data:=(be4 I).toArray }++{ data:=#[0,UInt8.ofNat s.size,0,0] }) s).run Tryz.prog W=.ok (.string (({ data:=(be4 E).toArray }:ByteArray)++{ data:=(be4 I).toArray }++{ data:=#[0,UInt8.ofNat s.size,0,0] }++s)) W:=fun W =>
  run_string_add_sum W _ _ (by
   have e:(({ data:=(be4 E).toArray }:ByteArray)++{ data:=(be4 I).toArray }++{ data:=#[0,UInt8.ofNat s.size,0,0] }).size=12:=by rw [ByteArray.size_append,ByteArray.size_append]; rfl
   omega)
 refine' wp_region_conf 16 [.is _,.is _,.is _,.is _,.is _,.is _,.is _,.is _,.is _,.slice w1.heap.size 4 5 (bytesV [0,UInt8.ofNat s.size,0,0]),.is _,.is _,.is _,.is _,.is _,.is _] (by kernel_rfl) (by kernel_rfl) (by kernel_rfl) (by kernel_rfl) rfl ?main
 case main =>
  iterate 9
   refine obs_is (fun w2 hE2 _=>?_) ?_
   ·have hb2:=hb0.drew.keep hE2 hb0.lt
    have c0:=hb2.cellAt (i:=0) (by simp)
    have c1:=hb2.cellAt (i:=1) (by simp)
    simp at c0 c1
    clear hb2
    go_wp2_with (go_at_call 79; refine (four_any _ (by first | exact hE | exact hI) _).mono ?_; rintro e w3 ⟨rfl,hb3⟩)
    first | exact post_is hb3 | exact post_is (Below.refl _ _)
   simp only [Act.put,sA,sB,sC]
  refine obs_slice (fun w2 hE2 _=>?_) (fun x=>?_)
  ·go_wp2
   exact ⟨_,rfl,⟨w2.heap.size,hE2.size,rfl,by rw [← H18.out]; exact Blk.new _ _ _⟩,(Below.refl _ _).alloc (Nat.le_refl _) _⟩
  simp only [Act.put,sA,sB,sC]
  refine obs_is (fun w2 hE2 hk=>?_) ?_
  ·obtain ⟨g2,hg2,rfl,hb2⟩:=hk _ (List.mem_cons_self) (by kernel_rfl)
   have hc:=conv_blk hb2 0 4 4 (by simp) 47 5 9 Tryz.underlying47 Tryz.underlying5 Tryz.underlying9
   clear hk
   go_wp2
   exact post_is (Below.refl _ _)
  simp only [Act.put,sA,sB,sC]
  iterate 5
   refine obs_is (fun w2 hE2 _=>?_) ?_
   ·have hb2:=hb0.drew.keep hE2 hb0.lt
    have c2:=hb2.cellAt (i:=2) (by simp)
    simp at c2
    clear hb2
    go_wp2
    exact post_is (Below.refl _ _)
   simp only [Act.put,sA,sB,sC]
  refine obs_end fun w3 hE3 _=>?_
  have hB3:Below w.heap.size w w3:=by rw [hG.out]; exact hB0.drew.trans (hE3.mono (by rw [← hG.out]; exact hB0.size))
  clear hb0 hB0 hE3 H18 hadd
  have hdat:(({ data:=(be4 E).toArray }:ByteArray)++{ data:=(be4 I).toArray }++{ data:=#[0,UInt8.ofNat s.size,0,0] }++s).data.toList=be4 E++be4 I++[0,UInt8.ofNat s.size,0,0]++s.data.toList:=by
   simp only [ByteArray.data_append,Array.toList_append]
  generalize (({ data:=(be4 E).toArray }:ByteArray)++{ data:=(be4 I).toArray }++{ data:=#[0,UInt8.ofNat s.size,0,0] }++s)=base at *
  have HD:=Lib.hid hdat
  clear hdat
  go_wp2
  go_loop [4] (fun x=>∃ (k:Nat) (t:ByteArray),k≤112 - s.size∧x=.string t∧Hid (t.data.toList=base.data.toList++List.replicate k 0)) (fun x=>124 - strSize x)
  case atStart=>exact ⟨0,base,by omega,rfl,by show _=_; simp⟩
  case round =>
   obtain ⟨k,t,hk,rfl,ht⟩:=hrel
   have hts:t.size=12+s.size+k:=by
    rw [← size_bytes,ht.out,HD.out]
    simp [be4_len]
    omega
   by_cases hlt:k < 112 - s.size
   ·have h1:(t.size:Int) < 124:=by omega
    have hTS:=Lib.hid hts
    clear hts
    have hadd:∀ W,(Op.stringOp .add t { data:=#[0] }).run Tryz.prog W=.ok (.string (t++{ data:=#[0] })) W:=fun W =>
     run_string_add_sum W _ _ (by have e:({ data:=#[0] }:ByteArray).size=1:=rfl; omega)
    go_wp2
    go_round
    case rel=>exact ⟨k+1,_,by omega,rfl,by
     show _=_
     rw [ByteArray.data_append,Array.toList_append,ht.out,List.append_assoc,List.replicate_succ']⟩
    case measure =>
     have e:(t++{ data:=#[0] }).size=t.size+1:=by rw [ByteArray.size_append]; rfl
     simp only [strSize,e]
     omega
   ·have h1:¬ (t.size:Int) < 124:=by omega
    have hm:t.size≤maxLen:=by unfold maxLen; omega
    have hadd:∀ W c,(Op.stringOp .add t { data:=(le4 c).toArray }).run Tryz.prog W=.ok (.string (t++{ data:=(le4 c).toArray })) W:=fun W c =>
     run_string_add_sum W _ _ (by have e:({ data:=(le4 c).toArray }:ByteArray).size=4:=rfl; omega)
    have htf:Hid (t.data.toList=front E I s):=by
     show _=_
     rw [ht.out,HD.out,show k=112 - s.size from by omega]
     rfl
    clear hts ht
    have hcl:=Crc.sum_lt t.data.toList
    go_wp2_with fail
    refine (refSum_any t _ hm).mono ?_
    rintro e w4 ⟨rfl,hb4⟩
    have hfin:=sect_eq E I s hl
    rw [← htf.out] at hfin
    have HF:=Lib.hid hfin
    clear hfin
    generalize Crc.sum t.data.toList=c at *
    have hc:=conv4 w4 c (c / 256) (c / 65536) (c / 16777216) ((c:Int) % 256) ((c:Int) / 256 % 256) ((c:Int) / 65536 % 256) ((c:Int) / 16777216) (by omega) (by omega) (by omega) (by omega)
    rw [show [UInt8.ofNat c,UInt8.ofNat (c / 256),UInt8.ofNat (c / 65536),UInt8.ofNat (c / 16777216)]=le4 c from rfl] at hc
    go_wp2
    go_ret
    refine ⟨?_,(below2 hB3 hb4).trans ((Below.refl _ _).alloc (below2 hB3 hb4).size _)⟩
    show Ending.returned (.string (t++{ data:=(le4 c).toArray }))=_
    congr 2
    apply str_ext
    rw [HF.out,ByteArray.data_append,Array.toList_append]
end Go.Proofs.YthkbcfhjmnpggaaGreat

namespace Go.Proofs.YthkbcfhjmnpggaaGreat
open Go.RowKit
theorem num4_take (l:List UInt8):num4 (l.take 4)=num4 l:=by
 unfold num4
 simp [List.getD_eq_getElem?_getD]
set_option maxRecDepth 100000 in
set_option maxHeartbeats 2000000 in
theorem refUnpack_size (s:ByteArray) (w:World) (h:s.size≠128) :
 Calls Tryz.prog 59 #[.string s] w fun e w'=>e=.returned (.tuple #[noSlab,.bool false])∧Below w.heap.size w w':=by
 have h1:((s.size:Int) != 128)=true:=by simp; omega
 go_enter Tryz.func59,Tryz.ntmps59
 go_wp2
 exact bodyPost_ret (results_row_tmp rfl _ _ w.heap.size 105 _ _ rfl (Blk.new _ _ _) Tryz.underlying105 rfl (by kernel_rfl)) rfl ⟨rfl,(Below.refl _ _).alloc (Nat.le_refl _) _⟩
set_option maxRecDepth 100000 in
set_option maxHeartbeats 2000000 in
theorem refUnpack_eight (s:ByteArray) (w:World) (h:Hid (s.size=128)) (h8:8 < s.size) (hz:((s[8].toNat:Int) != 0)=true) :
 Calls Tryz.prog 59 #[.string s] w fun e w'=>e=.returned (.tuple #[noSlab,.bool false])∧Below w.heap.size w w':=by
 have h1:((s.size:Int) != 128)=false:=by simp [h.out]
 have i8:(8:Int) < s.size:=by omega
 go_enter Tryz.func59,Tryz.ntmps59
 go_wp2
 exact bodyPost_ret (results_row_tmp rfl _ _ w.heap.size 105 _ _ rfl (Blk.new _ _ _) Tryz.underlying105 rfl (by kernel_rfl)) rfl ⟨rfl,(Below.refl _ _).alloc (Nat.le_refl _) _⟩
set_option maxRecDepth 100000 in
set_option maxHeartbeats 2000000 in
theorem refUnpack_nine (s:ByteArray) (w:World) (h:Hid (s.size=128)) (h8:8 < s.size) (h9:9 < s.size) (hz:((s[8].toNat:Int) != 0)=false) (hn:(112:Int) < s[9].toNat) :
 Calls Tryz.prog 59 #[.string s] w fun e w'=>e=.returned (.tuple #[noSlab,.bool false])∧Below w.heap.size w w':=by
 have h1:((s.size:Int) != 128)=false:=by simp [h.out]
 have i8:(8:Int) < s.size:=by omega
 have i9:(9:Int) < s.size:=by omega
 go_enter Tryz.func59,Tryz.ntmps59
 go_wp2
 exact bodyPost_ret (results_row_tmp rfl _ _ w.heap.size 105 _ _ rfl (Blk.new _ _ _) Tryz.underlying105 rfl (by kernel_rfl)) rfl ⟨rfl,(Below.refl _ _).alloc (Nat.le_refl _) _⟩
set_option maxRecDepth 100000 in
set_option maxHeartbeats 4000000 in
theorem refUnpack_rest (s:ByteArray) (w:World) (h:Hid (s.size=128)) (h8:8 < s.size) (h9:9 < s.size) (hz:((s[8].toNat:Int) != 0)=false) (n:Nat) (hn:Hid (n=s[9].toNat)) (hle:n≤112) (yes:Bool)
 (hyes:(sect (partE s) (partI s) (s.extract 12 (12+n))=s.data.toList)↔yes=true) :
 Calls Tryz.prog 59 #[.string s] w fun e w'=>e=.returned (.tuple (if yes then #[slabV (partE s) (partI s) (s.extract 12 (12+n)),.bool true] else #[noSlab,.bool false]))∧Below w.heap.size w w':=by
 have h1:((s.size:Int) != 128)=false:=by simp [h.out]
 have i8:(8:Int) < s.size:=by omega
 have i9:(9:Int) < s.size:=by omega
 have hsz:128≤s.size:=by rw [h.out]; omega
 have hv:(s[9].toNat:Int)=n:=by rw [hn.out]
 go_enter Tryz.func59,Tryz.ntmps59
 go_wp2
 have hsl:=slice_str (P:=Tryz.prog) 9 Tryz.underlying9 s 12 (12+n) .i64 .i64 12 (12+(n:Int)) (by omega) (by omega) (by omega) (by omega)
 have hsl4:=slice_str (P:=Tryz.prog) 9 Tryz.underlying9 s 4 8 .i64 .i64 4 8 rfl rfl (by omega) (by omega)
 have hx0:4≤(s.extract 0 4).size:=by rw [ByteArray.size_extract]; omega
 have hx4:4≤(s.extract 4 8).size:=by rw [ByteArray.size_extract]; omega
 have hr0:=(Blk.new w 105 #[.int .u32 0,.int .u32 0,.string ⟨#[]⟩])
 have hB0:=((Below.refl w.heap.size w).alloc (Nat.le_refl _) (.cells #[.int .u32 0,.int .u32 0,.string ⟨#[]⟩] 105))
 generalize hg:w.heap.size=g at *
 have hG:=Lib.hid hg
 clear hg
 generalize (w.alloc (.cells #[.int .u32 0,.int .u32 0,.string ⟨#[]⟩] 105))=w1 at *
 refine' wp_region_conf 14 [.is _,.is _,.is _,.is _,.is _,.is _,.is _,.is _,.is _,.is _,.is _,.is _,.is _,.ptr w1.heap.size 105 #[.int .u32 0,.int .u32 0,.string ⟨#[]⟩]] (by kernel_rfl) (by kernel_rfl) (by kernel_rfl) (by kernel_rfl) rfl ?main
 case main =>
  iterate 2
   refine obs_is (fun w2 hE2 _=>?_) ?_
   ·go_wp2
    exact post_is (Below.refl _ _)
   simp only [Act.put,sA,sB,sC]
  refine obs_is (fun w2 hE2 _=>?_) ?_
  ·go_wp2_with fail
   refine (number_any (s.extract 0 4) _ hx0).mono ?_
   rintro e w3 ⟨rfl,hb3⟩
   go_wp2
   exact post_is hb3
  simp only [Act.put,sA,sB,sC]
  iterate 2
   refine obs_is (fun w2 hE2 _=>?_) ?_
   ·go_wp2
    exact post_is (Below.refl _ _)
   simp only [Act.put,sA,sB,sC]
  refine obs_is (fun w2 hE2 _=>?_) ?_
  ·go_wp2_with fail
   refine (number_any (s.extract 4 8) _ hx4).mono ?_
   rintro e w3 ⟨rfl,hb3⟩
   go_wp2
   exact post_is hb3
  simp only [Act.put,sA,sB,sC]
  iterate 7
   refine obs_is (fun w2 hE2 _=>?_) ?_
   ·go_wp2
    exact post_is (Below.refl _ _)
   simp only [Act.put,sA,sB,sC]
  refine obs_ptr (fun w2 hE2 _=>?_) (fun x=>?_)
  ·go_wp2
   exact ⟨_,rfl,⟨w2.heap.size,hE2.size,rfl,Blk.new _ _ _⟩,(Below.refl _ _).alloc (Nat.le_refl _) _⟩
  simp only [Act.put,sA,sB,sC]
  refine obs_end fun w3 hE3 hk=>?_
  obtain ⟨g2,hg2,rfl,hb2⟩:=hk _ (List.mem_cons_self)
  clear hk
  have hB3:Below w.heap.size w w3:=by rw [hG.out]; exact hB0.drew.trans (hE3.mono (show g≤w1.heap.size by rw [← hG.out]; exact hB0.size))
  have hr3:=hr0.drew.keep hE3 hr0.lt
  have hne:g≠g2:=by
   have:=hr0.lt
   omega
  rw [num4_take,num4_take]
  refine wpList_store_row rfl 105 _ _ rfl g2 (#[.int .u32 (num4 s.data.toList:Nat),.int .u32 (num4 (s.data.toList.drop 4):Nat),.string (s.extract 12 (12+n))]) rfl rfl 105 _ hb2 (by kernel_rfl) (by simp) (by simp [Value.oneCell']) ?_
  replace hb2:=hb2.setRow #[.int .u32 (num4 s.data.toList:Nat),.int .u32 (num4 (s.data.toList.drop 4):Nat),.string (s.extract 12 (12+n))]
  replace hr3:=hr3.farRow hne #[.int .u32 (num4 s.data.toList:Nat),.int .u32 (num4 (s.data.toList.drop 4):Nat),.string (s.extract 12 (12+n))]
  replace hB3:=below_setRow hB3 (g:=g2) (by rw [hG.out]; have:=hB0.size; rw [hG.out] at this; omega) #[.int .u32 (num4 s.data.toList:Nat),.int .u32 (num4 (s.data.toList.drop 4):Nat),.string (s.extract 12 (12+n))]
  simp only [Act.put]
  generalize w3.setRow g2 _=w4 at *
  have c0:=hb2.cellAt (i:=0) (by simp)
  have c1:=hb2.cellAt (i:=1) (by simp)
  have c2:=hb2.cellAt (i:=2) (by simp)
  simp at c0 c1 c2
  go_wp2_with fail
  refine (refPack_any _ _ _ _ (num4_lt _) (num4_lt _) (by rw [ByteArray.size_extract]; omega)).mono ?_
  rintro e w5 ⟨rfl,hb5⟩
  have htest:(sect (num4 s.data.toList) (num4 (List.drop 4 s.data.toList)) (s.extract 12 (12+n)) == s.toList)=yes:=by
   rw [Bool.eq_iff_iff,beq_iff_eq,ByteArray.toList_eq]
   exact hyes
  have hr5:=hr3.keep hb5 hr3.lt
  have hx5:=hb2.keep hb5 hb2.lt
  have hB5:=below2 hB3 hb5
  clear c0 c1 c2 hyes
  cases yes
  ·go_wp2_with (refine wpList_store_row rfl 105 _ _ rfl g _ rfl rfl 105 _ hr5 (by kernel_rfl) (by simp) (by simp [Value.oneCell']) ?_)
   refine bodyPost_ret (results_row_tmp rfl _ _ g 105 _ _ rfl (hr5.setRow _) Tryz.underlying105 rfl (by kernel_rfl)) rfl ⟨rfl,below_setRow hB5 (by rw [hG.out]; omega) _⟩
  ·go_wp2_with (first
    | (refine wpList_load_row rfl 105 _ rfl g2 rfl 105 _ (0,0) _ hx5 Tryz.underlying105 rfl (by kernel_rfl) ?_)
    | (refine wpList_store_row rfl 105 _ _ rfl g _ rfl rfl 105 _ hr5 (by kernel_rfl) (by simp) (by simp [Value.oneCell']) ?_))
   refine bodyPost_ret (results_row_tmp rfl _ _ g 105 _ _ rfl (hr5.setRow _) Tryz.underlying105 rfl (by kernel_rfl)) rfl ⟨rfl,below_setRow hB5 (by rw [hG.out]; omega) _⟩
theorem refUnpack_yes (s:ByteArray) (w:World) (h:IsSlab s) :
 Calls Tryz.prog 59 #[.string s] w fun e w'=>e=.returned (.tuple #[slabV (partE s) (partI s) (partB s),.bool true])∧Below w.heap.size w w':=by
 obtain ⟨hz,h0,hn,hs⟩:=h
 have h8:s[8]'(by omega)=0:=by rw [← getD_at s 8 (by omega)]; exact h0
 have hn':partN s=(s[9]'(by omega)).toNat:=getD_nat s 9 (by omega)
 exact refUnpack_rest s w hz (by omega) (by omega) (by rw [h8]; rfl) (partN s) hn' hn true (by simpa [partB] using hs)
theorem refUnpack_no (s:ByteArray) (w:World) (h:¬ IsSlab s) :
 Calls Tryz.prog 59 #[.string s] w fun e w'=>e=.returned (.tuple #[noSlab,.bool false])∧Below w.heap.size w w':=by
 by_cases hz:s.size=128
 ·by_cases h8:(s[8]'(by omega)).toNat=0
  ·have hn':partN s=(s[9]'(by omega)).toNat:=getD_nat s 9 (by omega)
   have h0:s.data.toList.getD 8 0=0:=by
    rw [getD_at s 8 (by omega)]
    exact UInt8.toNat_inj.1 h8
   by_cases hc:(112:Int) < (s[9]'(by omega)).toNat
   · exact refUnpack_nine s w hz (by omega) (by omega) (by rw [h8]; rfl) hc
   ·exact refUnpack_rest s w hz (by omega) (by omega) (by rw [h8]; rfl) (partN s) hn' (by omega) false
     (by
       constructor
       · intro hs; exact absurd ⟨hz,h0,by omega,hs⟩ h
       · intro hf; cases hf)
  · exact refUnpack_eight s w hz (by omega) (by simp; omega)
 · exact refUnpack_size s w hz
end Go.Proofs.YthkbcfhjmnpggaaGreat

namespace Go.Proofs.YthkbcfhjmnpggaaGreat
open Go.RowKit
theorem refUnpack3 (s:ByteArray) (w:World):∃ b:Bool,(b=false→slab3 s=(0,0,⟨#[]⟩))∧Calls Tryz.prog 59 #[.string s] w fun e w'=>e=.returned (.tuple #[.agg #[.int .u32 (slab3 s).1,.int .u32 (slab3 s).2.1,.string (slab3 s).2.2],.bool b])∧Below w.heap.size w w':=by
 by_cases h:IsSlab s
 ·refine ⟨true,(fun h=>nomatch h),?_⟩
  have e:slab3 s=(partE s,partI s,partB s):=if_pos h
  rw [e]
  exact refUnpack_yes s w h
 ·have e:slab3 s=(0,0,⟨#[]⟩):=if_neg h
  refine ⟨false,fun _=>e,?_⟩
  rw [e]
  exact refUnpack_no s w h
noncomputable def mostE (D:Dk) (base:Nat):Nat→Nat
 | 0=>0
 | i+1=>max (mostE D base i) (slab3 (D.at_ ((base+i:Nat):Int))).1
theorem mostE_ge (D:Dk) (base:Nat):∀ i j,j < i→(slab3 (D.at_ ((base+j:Nat):Int))).1≤mostE D base i
 | i+1,j,h=>by
   unfold mostE
   by_cases e:j=i
   · subst e; omega
   ·have:=mostE_ge D base i j (by omega)
    omega
theorem mostE_at (D:Dk) (base:Nat):∀ i,mostE D base i=0∨∃ j,j < i∧(slab3 (D.at_ ((base+j:Nat):Int))).1=mostE D base i
 | 0=>.inl rfl
 | i+1=>by
   unfold mostE
   rcases Nat.le_total (mostE D base i) (slab3 (D.at_ ((base+i:Nat):Int))).1 with h | h
   · exact .inr ⟨i,by omega,by omega⟩
   ·rcases mostE_at D base i with h2 | ⟨j,hj,h2⟩
    · exact .inl (by omega)
    · exact .inr ⟨j,by omega,by omega⟩
theorem epochOf_ge {L:List Slab3} {x:Slab3} (h:x ∈ L):x.1+1≤epochOf L:=by
 have:=epochOf_gt h
 omega
theorem epochOf_at (L:List Slab3):epochOf L=1∨∃ x ∈ L,x.1+1=epochOf L:=by
 refine snoc_ind (p:=fun L=>epochOf L=1∨∃ x ∈ L,x.1+1=epochOf L) (.inl rfl) (fun L x ih=>?_) L
 rw [epochOf_snoc]
 rcases Nat.le_total (epochOf L) (x.1+1) with h | h
 · exact .inr ⟨x,by simp,by omega⟩
 ·rcases ih with ih | ⟨y,hy,ih⟩
  · exact .inl (by omega)
  · exact .inr ⟨y,by simp [hy],by omega⟩
theorem ring_get (D:Dk) (base n low k:Nat) (h:k < n):(ringOf (Wl.head base n low) D n)[k]? = some (slab3 (D.at_ ((base+(low+k) % n:Nat):Int))):=by
 unfold ringOf
 rw [List.getElem?_map,List.getElem?_range h]
 rfl
theorem mostE_epoch (D:Dk) (base n low:Nat) (hn:0 < n):mostE D base n+1=epochOf (ringOf (Wl.head base n low) D n):=by
 have hle:mostE D base n+1≤epochOf (ringOf (Wl.head base n low) D n):=by
  rcases mostE_at D base n with h | ⟨j,hj,h⟩
  ·have h1:=(epochOf_le (L:=ringOf (Wl.head base n low) D n) fun x hx=>(ring_mem hx).1).1
   omega
  ·have hk:∃ k,k < n∧(low+k) % n=j:=by
    refine ⟨(j+(n - low % n)) % n,Nat.mod_lt _ hn,?_⟩
    rw [Nat.add_mod_mod]
    have h1:low+(j+(n - low % n))=j+n+(n*(low / n)):=by
     have h2:=Nat.div_add_mod low n
     have h3:=Nat.mod_lt low hn
     omega
    rw [h1,Nat.add_mul_mod_self_left,Nat.add_mod_right,Nat.mod_eq_of_lt hj]
   obtain ⟨k,hkn,hk⟩:=hk
   have hg:=ring_get D base n low k hkn
   rw [hk] at hg
   have:=epochOf_ge (List.mem_of_getElem? hg)
   omega
 have hge:epochOf (ringOf (Wl.head base n low) D n)≤mostE D base n+1:=by
  rcases epochOf_at (ringOf (Wl.head base n low) D n) with h | ⟨x,hx,h⟩
  · omega
  ·obtain ⟨k,hk,rfl⟩:=List.getElem_of_mem hx
   have hkn:k < n:=by simpa [ringOf] using hk
   have hg:=ring_get D base n low k hkn
   rw [List.getElem?_eq_getElem hk] at hg
   have e:=Option.some.inj hg
   rw [e] at h
   have:=mostE_ge D base n ((low+k) % n) (Nat.mod_lt _ hn)
   omega
 omega
structure OpAt (w0 w:World) (F:Foot) (g gd:Nat) (base n low fst ep:Nat) (bs:List ByteArray) (vb:Value):Prop where
 r:RLR w F g gd ⟨base,n,ep,low,fst,[]⟩ vb bs.length bs
 new:∀ b,F b→w0.heap.size≤b
 below:Below w0.heap.size w0 w
namespace OpAt
variable {w0 w w':World} {F:Foot} {g gd base n low fst ep:Nat} {bs:List ByteArray} {vb:Value}
theorem more (h:OpAt w0 w F g gd base n low fst ep bs vb) (hb:Below w.heap.size w w'):OpAt w0 w' F g gd base n low fst ep bs vb:=⟨h.r.below hb,h.new,below2 h.below hb⟩
theorem setTime (h:OpAt w0 w F g gd base n low fst ep bs vb) (x:Nat):OpAt w0 (w.setCell ⟨g,5,none⟩ (.int .i64 (x:Int))) F g gd base n low fst x bs vb :=
 ⟨⟨h.r.head.set 5 _,own_keep h.r.rows fun b hb=>heap_setCell_other w ⟨g,5,none⟩ b _ fun e=>h.r.vg (by rw [hb,e]),h.r.fg,h.r.fv,fun c hc=>by simpa [World.setCell] using h.r.lt c hc⟩,h.new,h.below.setCell (h.new g h.r.fg) _⟩
theorem setFirst (h:OpAt w0 w F g gd base n low fst ep bs vb) (x:Nat):OpAt w0 (w.setCell ⟨g,4,none⟩ (.int .i64 (x:Int))) F g gd base n low x ep bs vb :=
 ⟨(h.r.setFirst x).1,h.new,h.below.setCell (h.new g h.r.fg) _⟩
theorem push (h:OpAt w0 w F g gd base n low fst ep bs vb) {gg cap:Nat} {s:ByteArray} (hown:w'.ownsRow 0 9 1 (.slice (some ⟨gg,0,none⟩) (bs.length+1) cap) (bs.length+1) (strsV bs++[.string s])) (hg:w.grownBy w' vb.ownBlock) (hat:vb.ownBlock=some gg∨gg=w.heap.size) (hlt:gg < w'.heap.size) :
 Blk w' g 69 (rlogCells gd ⟨base,n,ep,low,fst,[]⟩ vb)∧OpAt w0 (w'.setCell ⟨g,6,none⟩ (.slice (some ⟨gg,0,none⟩) (bs.length+1) cap)) (fun b=>F b∨b=gg) g gd base n low fst ep (bs++[s]) (.slice (some ⟨gg,0,none⟩) (bs.length+1) cap):=by
 have hp:=(h.r.pushed hown hg hat hlt)
 have hh:Blk w' g 69 (rlogCells gd ⟨base,n,ep,low,fst,[]⟩ vb):=(hg.block g h.r.head.lt fun e=>h.r.vg e.symm).trans h.r.head
 refine ⟨hh,⟨by rw [List.length_append,List.length_singleton]; exact hp.1,fun b hb=>?_,hp.2.belowB h.new h.below h.below.size⟩⟩
 rcases hb with hb | rfl
 · exact h.new b hb
 ·rcases hat with hat | hat
  · exact h.new _ (h.r.fv _ hat)
  · have:=h.below.size; omega
end OpAt
end Go.Proofs.YthkbcfhjmnpggaaGreat
