/- Texts that belong together, joined: TaV, PgG, Act, St, StW, StD, StC, SoA, SoB, SoC, RpA, Pl8. -/
import Derived.Test.YthkbcfhjmnpggaaGreatK38
import Derived.Test.YthkbcfhjmnpggaaGreatK03
import Derived.Deep.DeepCutAuto
import Derived.Deep.CutBlock
import Derived.Test.YthkbcfhjmnpggaaGreatK34
import Derived.Test.YthkbcfhjmnpggaaGreatK08
import Derived.Test.YthkbcfhjmnpggaaGreatK09
import Derived.Test.YthkbcfhjmnpggaaGreatK10
import Derived.Test.YthkbcfhjmnpggaaGreatK04
import Derived.Test.YthkbcfhjmnpggaaGreatK22
import Derived.Test.YthkbcfhjmnpggaaGreatK16
namespace Go.Proofs.YthkbcfhjmnpggaaGreat
open Go.RowKit
set_option maxRecDepth 100000 in
set_option maxHeartbeats 8000000 in
theorem rlOpenLog_any {w:World} {FD:Foot} {gd:Nat} {D:Dk} (h:IsRef w FD gd D) (dok:D.Ok) (hgone:D.gone=false) (base n low:Nat) (h8:8≤n) (h64:n≤64) (hb:base+n≤D.safe.length) (hl:1≤low) (hlm:low≤16777216) :
 Calls Tryz.prog 23 #[.pointer (some ⟨gd,0,none⟩),.int .i64 base,.int .i64 n,.int .i64 low] w fun e w'=>∃ g F,e=.returned (.tuple #[.pointer (some ⟨g,0,none⟩),.int .i64 0])∧IsRL w' F g gd (Wl.opened D base n low)∧(∀ b,F b→w.heap.size≤b)∧Below w.heap.size w w':=by
 have hle:=dok.le
 have MAY:=Lib.hid (rlMay_any h dok base n (by omega) true (by simp [h8,h64,hb]))
 have RD:Hid (∀ W k,Below w.heap.size w W→k < n→Calls Tryz.prog 58 #[.pointer (some ⟨gd,0,none⟩),.int .i64 ((base+k:Nat):Int)] W fun e w'=>e=.returned (.tuple #[.string (D.at_ ((base+k:Nat):Int)),.int .i64 0])∧W=w'):=fun W k hW hk=>refRead_ok dok (h.below hW) (base+k) ⟨by omega,by omega⟩ hgone _ rfl
 have CG:Hid (∀ W,Below w.heap.size w W→W.cell? ⟨gd,2,none⟩=some (.bool false)):=fun W hW=>by
  obtain ⟨vs,vq,r⟩:=h.below hW
  obtain ⟨_,_,c2,_⟩:=r.cells
  rw [hgone] at c2
  exact c2
 have c2:=CG.out w (Below.refl _ _)
 have hni:(n:Int)≤64:=by omega
 have hbi:(base:Int)≤512:=by omega
 have hli:(1:Int)≤low:=by omega
 have hlmi:(low:Int)≤16777216:=by omega
 have hl1:¬ (low:Int) < 1:=by omega
 have hl2:¬ (16777216:Int) < low:=by omega
 have hd1:decide ((low:Int) < 1)=false:=decide_eq_false hl1
 have hd2:decide ((16777216:Int) < low)=false:=decide_eq_false hl2
 have HNUM:Hid (8≤n∧n≤64∧base+n≤512∧1≤low∧low≤16777216):=⟨h8,h64,by omega,hl,hlm⟩
 clear h dok hgone hle h8 h64 hb hl hlm
 go_enter Tryz.func23,Tryz.ntmps23
 go_wp2_with fail
 refine MAY.out.mono ?_
 rintro e w1 ⟨rfl,rfl⟩
 have B0:=Blk.new w 69 #[.pointer (some ⟨gd,0,none⟩),.int .i64 base,.int .i64 n,.int .i64 low,.int .i64 0,.int .i64 0,.slice none 0 0]
 have hb0:=(Below.refl w.heap.size w).alloc (Nat.le_refl _) (.cells #[.pointer (some ⟨gd,0,none⟩),.int .i64 base,.int .i64 n,.int .i64 low,.int .i64 0,.int .i64 0,.slice none 0 0] 69)
 have OP0:Hid (OpAt w (w.alloc (.cells #[.pointer (some ⟨gd,0,none⟩),.int .i64 base,.int .i64 n,.int .i64 low,.int .i64 0,.int .i64 0,.slice none 0 0] 69)) (· = w.heap.size) w.heap.size gd base n low 0 0 [] (.slice none 0 0)) :=
  ⟨⟨B0,World.ownsRow_nil _ _ _ 1,rfl,fun b hb=>by simp [Value.ownBlock] at hb,fun b hb=>by subst hb; exact B0.lt⟩,fun b hb=>by subst hb; exact Nat.le_refl _,hb0⟩
 clear MAY B0 hb0
 go_wp2_with fail
 generalize w.alloc (.cells #[.pointer (some ⟨gd,0,none⟩),.int .i64 base,.int .i64 n,.int .i64 low,.int .i64 0,.int .i64 0,.slice none 0 0] 69)=w1 at *
 generalize w.heap.size=g at OP0 ⊢
 clear c2 hl1 hl2 hd1 hd2
 go_loopw [11,12,13,14,15,16] (fun vm vi _ _ _ _ wr=>∃ i:Nat,vi=.int .i64 i∧i≤n∧vm=.int .i64 (mostE D base i:Nat)∧OpAt w wr (· = g) g gd base n low 0 0 [] (.slice none 0 0)) (fun _ vi _ _ _ _ _=>n - (intOf vi).toNat)
 case atStart=>exact ⟨0,rfl,Nat.zero_le _,rfl,OP0.out⟩
 case round =>
  obtain ⟨i,rfl,hi,rfl,hop⟩:=hrel
  have OP:=Lib.hid hop
  clear hop OP0
  by_cases hlt:i < n
  ·have hii:(i:Int) < n:=by omega
   have RI:=Lib.hid (RD.out wr i OP.out.below hlt)
   have hbk:((base+i:Nat):Int)=(base:Int)+(i:Int):=by omega
   obtain ⟨s,hs⟩:∃ s,D.at_ ((base+i:Nat):Int)=s:=⟨_,rfl⟩
   have HME:Hid (mostE D base (i+1)=max (mostE D base i) (slab3 s).1):=by rw [← hs]; rfl
   rw [hs,hbk] at RI
   have hslab:=(slab3_ok s).1
   clear hs hbk
   obtain ⟨ok,hno,hun⟩:=refUnpack3 s wr
   have UN:=Lib.hid hun
   have HNO:=Lib.hid hno
   clear hun hno
   generalize slab3 s=S at *
   obtain ⟨se,si,sb⟩:=S
   simp only at hslab
   have hse:(se:Int) < 4294967296:=by omega
   have HM:Hid (mostE D base i < 4294967296):=by
    rcases mostE_at D base i with h | ⟨j,_,h⟩
    · rw [Hid,h]; omega
    · rw [Hid,← h]; exact (slab3_ok _).1
   have hwe:IntKind.i64.wrap (se:Int)=(se:Int):=IntWalk.i64_in _ (by omega)
   have HSE:=Lib.hid hse
   clear hse
   go_wp2_with fail
   refine RI.out.mono ?_
   rintro e w2 ⟨rfl,rfl⟩
   go_wp2_with fail
   refine UN.out.mono ?_
   rintro e w2 ⟨rfl,hb2⟩
   have OP2:=Lib.hid (OP.out.more hb2)
   clear hb2 OP RI UN hslab
   generalize mostE D base i=M at *
   have hn:=Blk.new w2 105 #[.int .u32 0,.int .u32 0,.string ⟨#[]⟩]
   have hb3:Below w2.heap.size w2 ((w2.alloc (.cells #[.int .u32 0,.int .u32 0,.string ⟨#[]⟩] 105)).setRow w2.heap.size #[.int .u32 se,.int .u32 si,.string sb]):=below_setRow ((Below.refl _ _).alloc (Nat.le_refl _) _) (Nat.le_refl _) _
   have N3:=hn.setRow #[.int .u32 (se:Int),.int .u32 (si:Int),.string sb]
   have OP3:=Lib.hid (OP2.out.more hb3)
   go_upto_region 12 with (refine wpList_store_row rfl 105 _ _ rfl w2.heap.size _ rfl rfl 105 _ hn (by kernel_rfl) rfl (by simp [Value.oneCell']) ?_)
   clear hn hb3 OP2
   change Code.wp _ _ _ _ ((w2.alloc (.cells #[.int .u32 0,.int .u32 0,.string ⟨#[]⟩] 105)).setRow w2.heap.size #[.int .u32 se,.int .u32 si,.string sb])
   generalize (w2.alloc (.cells #[.int .u32 0,.int .u32 0,.string ⟨#[]⟩] 105)).setRow w2.heap.size #[.int .u32 se,.int .u32 si,.string sb]=w3 at *
   generalize w2.heap.size=y at *
   have d0:w3.cell? ⟨y,0,none⟩=some (.int .u32 (se:Int)):=N3.cell 0
   clear N3
   cases ok with
   | false =>
     have e0:=HNO.out rfl
     have hse0:se=0:=congrArg Prod.fst e0
     have HME2:Hid (mostE D base (i+1)=M):=by rw [Hid,HME.out,hse0]; simp
     clear e0 hse0
     go_wp2_with fail
     go_roundw
     case rel=>exact ⟨i+1,by go_num,by omega,by rw [HME2.out],OP3.out⟩
     case measure=>simp [intOf]; omega
   | true =>
     by_cases hms:(M:Int) < se
     ·have HME2:Hid (mostE D base (i+1)=se):=by rw [Hid,HME.out]; omega
      go_wp2_with fail
      go_roundw
      case rel=>exact ⟨i+1,by go_num,by omega,by rw [HME2.out],OP3.out⟩
      case measure=>simp [intOf]; omega
     ·have HME2:Hid (mostE D base (i+1)=M):=by rw [Hid,HME.out]; omega
      go_wp2_with fail
      go_roundw
      case rel=>exact ⟨i+1,by go_num,by omega,by rw [HME2.out],OP3.out⟩
      case measure=>simp [intOf]; omega
  ·obtain rfl:i=n:=by omega
   have HEP:Hid (mostE D base i+1=epochOf (ringOf (Wl.head base i low) D i)):=mostE_epoch D base i low (by have:=HNUM.out; omega)
   have HM:Hid (mostE D base i < 4294967296):=by
    rcases mostE_at D base i with h | ⟨j,_,h⟩
    · rw [Hid,h]; omega
    · rw [Hid,← h]; exact (slab3_ok _).1
   have hwm:IntKind.i64.wrap ((mostE D base i:Int)+1)=(mostE D base i:Int)+1:=IntWalk.i64_in _ (by have:=HM.out; omega)
   have c5:=OP.out.r.cells.2.2.2.2.2.1
   have f5:=OP.out.r.head.frozen 5
   have OP5:=Lib.hid (OP.out.setTime (mostE D base i+1))
   rw [show ((mostE D base i+1:Nat):Int)=(mostE D base i:Int)+1 by omega] at OP5
   clear OP
   generalize hE:mostE D base i+1=E at *
   have HE:=Lib.hid hE
   clear hE
   generalize (mostE D base i:Int)=m at *
   go_upto_block 2 with fail
   generalize wr.setCell ⟨g,5,none⟩ (.int .i64 (m+1))=w5 at *
   obtain ⟨R,hR⟩:∃ R,ringOf (Wl.head base i low) D i=R:=⟨_,rfl⟩
   have HR:=Lib.hid hR
   clear hR c5 f5 hwm
   go_cut [17,18,19,20,21,22,23,24] from 78 to 140 (fun _ _ _ _ _ _ _ _ wx=>∃ F vb,OpAt w wx F g gd base i low 0 E (wholeP 0 low R) vb)
   case first =>
    go_wp2_with fail
    go_loopw [17,18,19,20,21,22,23,24] (fun va vj _ _ _ _ _ _ wr=>∃ (j a:Nat) (bs:List ByteArray) (F:Foot) (vb:Value),vj=.int .i64 j∧low≤j∧j≤low+i∧va=.int .u32 a∧bs.length≤j - low∧OpAt w wr F g gd base i low 0 E bs vb∧bs++wholeP a j (R.drop (j - low))=wholeP 0 low R) (fun _ vj _ _ _ _ _ _ _=>low+i - (intOf vj).toNat)
    case atStart=>exact ⟨low,0,[],_,_,rfl,Nat.le_refl _,by omega,rfl,by simp,OP5.out,by simp⟩
    case round =>
     obtain ⟨j,a,bs,F,vb,rfl,hj1,hj2,rfl,hbl,hop,hwh⟩:=hrel
     have OP:=Lib.hid hop
     have HWH:=Lib.hid hwh
     clear hop hwh OP5
     have hji:(j:Int)≤16777280:=by omega
     by_cases hlt:j < low+i
     ·have hli2:(j:Int) < (low:Int)+(i:Int):=by omega
      have hk:j - low < i:=by omega
      have RI:=Lib.hid (RD.out wr (j % i) OP.out.below (Nat.mod_lt _ (by omega)))
      have hbk:((base+j % i:Nat):Int)=(base:Int)+(j:Int) % (i:Int):=by rw [Int.natCast_add,Int.natCast_emod]
      obtain ⟨s,hs⟩:∃ s,D.at_ ((base+j % i:Nat):Int)=s:=⟨_,rfl⟩
      have hdr:R.drop (j - low)=slab3 s::R.drop (j - low+1):=by
       have hg:=ring_get D base i low (j - low) hk
       rw [show low+(j - low)=j by omega,hs,HR.out] at hg
       have hlen:=(List.getElem?_eq_some_iff.1 hg).1
       rw [List.drop_eq_getElem_cons hlen]
       rw [List.getElem?_eq_getElem hlen] at hg
       rw [Option.some.inj hg]
      rw [hs,hbk] at RI
      have hsl:=slab3_ok s
      rw [hdr,show j - low+1=j+1 - low by omega] at HWH
      clear hs hbk hdr
      obtain ⟨ok,hno,hun⟩:=refUnpack3 s wr
      have UN:=Lib.hid hun
      have HNO:=Lib.hid hno
      clear hun hno
      generalize slab3 s=S at *
      obtain ⟨se,si,sb⟩:=S
      obtain ⟨hse,hsi,hsb⟩:=hsl
      simp only at hse hsi hsb
      have hwe:IntKind.i64.wrap (si:Int)=(si:Int):=IntWalk.i64_in _ (by omega)
      have ALL:=Lib.hid (fun W=>refAll_any sb W (by omega))
      have HSS:=Lib.hid (And.intro hse hsi)
      have hm1:(0:Int)≤(j:Int) % (i:Int):=Int.emod_nonneg _ (by omega)
      have hm2:(j:Int) % (i:Int) < 64:=by have:=Int.emod_lt_of_pos (j:Int) (show (0:Int) < i by omega); omega
      clear hse hsi
      go_wp2_with fail
      refine RI.out.mono ?_
      rintro e w2 ⟨rfl,rfl⟩
      go_wp2_with fail
      refine UN.out.mono ?_
      rintro e w2 ⟨rfl,hb2⟩
      have OP2:=Lib.hid (OP.out.more hb2)
      clear hb2 OP RI UN hm1 hm2
      have hn:=Blk.new w2 105 #[.int .u32 0,.int .u32 0,.string ⟨#[]⟩]
      have hb3:Below w2.heap.size w2 ((w2.alloc (.cells #[.int .u32 0,.int .u32 0,.string ⟨#[]⟩] 105)).setRow w2.heap.size #[.int .u32 se,.int .u32 si,.string sb]):=below_setRow ((Below.refl _ _).alloc (Nat.le_refl _) _) (Nat.le_refl _) _
      have N3:=hn.setRow #[.int .u32 (se:Int),.int .u32 (si:Int),.string sb]
      have OP3:=Lib.hid (OP2.out.more hb3)
      go_upto_region 21 with (refine wpList_store_row rfl 105 _ _ rfl w2.heap.size _ rfl rfl 105 _ hn (by kernel_rfl) rfl (by simp [Value.oneCell']) ?_)
      clear hn hb3 OP2
      change Code.wp _ _ _ _ ((w2.alloc (.cells #[.int .u32 0,.int .u32 0,.string ⟨#[]⟩] 105)).setRow w2.heap.size #[.int .u32 se,.int .u32 si,.string sb])
      generalize (w2.alloc (.cells #[.int .u32 0,.int .u32 0,.string ⟨#[]⟩] 105)).setRow w2.heap.size #[.int .u32 se,.int .u32 si,.string sb]=w3 at *
      generalize w2.heap.size=y at *
      have d0:w3.cell? ⟨y,0,none⟩=some (.int .u32 (se:Int)):=N3.cell 0
      have d1:w3.cell? ⟨y,1,none⟩=some (.int .u32 (si:Int)):=N3.cell 1
      have d2:w3.cell? ⟨y,2,none⟩=some (.string sb):=N3.cell 2
      cases ok with
      | false =>
        have e0:=HNO.out rfl
        have hst:bs=wholeP 0 low R:=by
         rw [← HWH.out,wholeP_stop (fun h=>h.2.1 (show sb.size=0 from congrArg (fun x:Slab3=>x.2.2.size) e0)),List.append_nil]
        rw [hst] at OP3
        clear e0 hst N3
        go_wp2_with fail
        go_meet
        exact ⟨_,_,OP3.out⟩
      | true =>
        by_cases h1:si=j
        ·have h1i:((si:Int) == (j:Int))=true:=by simp [h1]
         have h1j:((si:Int) != (j:Int))=false:=by simp [h1]
         by_cases hz:sb.size=0
         ·have hst:bs=wholeP 0 low R:=by rw [← HWH.out,wholeP_stop (fun h=>h.2.1 hz),List.append_nil]
          rw [hst] at OP3
          have hnil:=toList_nil hz
          clear hst N3 hz h1
          go_wp2_with fail
          go_meet
          exact ⟨_,_,OP3.out⟩
         ·have hnil:=toList_pos (u:=sb) (by omega)
          by_cases ha:(se:Int) < (a:Int)
          ·have hst:bs=wholeP 0 low R:=by rw [← HWH.out,wholeP_stop (fun h=>by have:=h.2.2.2; simp only at this; omega),List.append_nil]
           rw [hst] at OP3
           clear hst N3 hz h1
           go_wp2_with fail
           go_meet
           exact ⟨_,_,OP3.out⟩
          ·cases hall:allS sb with
           | none =>
             have hst:bs=wholeP 0 low R:=by rw [← HWH.out,wholeP_stop (fun h=>by have:=h.2.2.1; simp only at this; rw [hall] at this; cases this),List.append_nil]
             rw [hst] at OP3
             rw [hall] at ALL
             clear hst N3 hz h1 hall
             go_wp2_with fail
             refine (ALL.out _).mono ?_
             rintro e w4 ⟨v4,q4,rfl,-,-,hb4,-⟩
             have OP4:=Lib.hid (OP3.out.more hb4)
             clear hb4 OP3
             go_wp2_with fail
             go_meet
             exact ⟨_,_,OP4.out⟩
           | some es =>
             have hgo:bs++[sb]++wholeP se (j+1) (R.drop (j+1 - low))=wholeP 0 low R:=by
              rw [← HWH.out,wholeP_go h1 hz (by simp only; rw [hall]; rfl) (by simp only; omega),List.append_assoc]
              rfl
             have HGO:=Lib.hid hgo
             rw [hall] at ALL
             clear hz h1 hall hgo HWH
             go_wp2_with fail
             refine (ALL.out _).mono ?_
             rintro e w4 ⟨v4,q4,rfl,-,ho4,hb4,-⟩
             obtain ⟨a4,c4,hv4⟩:=own_slice ho4.own
             have OP4:=Lib.hid (OP3.out.more hb4)
             have N4:=N3.keep hb4 N3.lt
             have d0:w4.cell? ⟨y,0,none⟩=some (.int .u32 (se:Int)):=N4.cell 0
             clear ho4 hb4 OP3 N3
             subst hv4
             go_upto_region 25 with fail
             have hn64:bs.length≤64:=by have:=HNUM.out; omega
             have CB:Hid (∀ W,Below w4.heap.size w4 W→W.cell? ⟨g,6,none⟩=some vb∧W.cell? ⟨y,2,none⟩=some (.string sb)):=fun W hW=>⟨(OP4.out.more hW).r.cells.2.2.2.2.2.2,(N4.keep hW N4.lt).cell 2⟩
             obtain ⟨va,vc,hvb⟩:=own_slice OP4.out.r.rows
             obtain ⟨i0,hi0,hz0,hz1,hz2⟩:=info_parts info_str
             have HI:=Lib.hid (And.intro hi0 (And.intro hz0 (And.intro hz1 hz2)))
             clear hi0 hz0 hz1 hz2 N4
             subst hvb
             refine' wp_region_free [0] 8 (.is (.pointer (some ⟨g,0,none⟩))::.is _::.is _::.is _::.is _::.is _::.is _::.slice w4.heap.size 1 9 #[.string sb]::[]) (by kernel_rfl) (by kernel_rfl) (by kernel_rfl) (by kernel_rfl) (by kernel_rfl) rfl ⟨rfl,trivial⟩ (fun _ _ _ _ _ h=>h) ?main
             case main =>
              iterate 7
               refine obs_is (fun w8 hE2 _=>?_) ?_
               ·obtain ⟨c6,e2⟩:=CB.out w8 ((Below.refl w4.heap.size w4).drew.trans hE2)
                clear hE2
                go_wp2_with fail
                exact post_is (Below.refl _ _)
               simp only [Act.put,sA,sB,sC]
              refine obs_slice (fun w8 hE2 _=>?_) (fun q9=>?_)
              ·go_wp2
               exact ⟨_,rfl,⟨w8.heap.size,hE2.size,rfl,Blk.new _ _ _⟩,(Below.refl _ _).alloc (Nat.le_refl _) _⟩
              simp only [Act.put,sA,sB,sC]
              refine obs_end fun w8 hE3 hkn=>?_
              obtain ⟨g9,_,rfl,hb9⟩:∃ g9,w4.heap.size≤g9∧q9=.slice (some ⟨g9,0,none⟩) 1 1∧Blk w8 g9 9 #[.string sb]:=hkn _ (List.mem_cons_self ..)
              have hB8:=(Below.refl w4.heap.size w4).drew.trans hE3
              have OP8:=Lib.hid (OP4.out.more hB8)
              have c6:=(CB.out w8 hB8).1
              clear hkn hE3 hB8 CB OP4
              obtain ⟨hi0,hz0,hz1,hz2⟩:=HI.out
              change wpList _ _ _ _ _ _
              go_wp2_with (at_builtin; refine wpList_append_lies _ rfl (.tmp 134) (.tmp 137) 62 rfl 0 9 i0 _ 1 16 Tryz.underlying62 hi0 hz0 hz1 hz2 rfl (by decide) _ _ _ rfl OP8.out.r.rows ⟨g9,0,none⟩ 1 1 [.string sb] rfl rfl (World.news_of_block hb9) (by simp [Value.oneCell']) (by omega) (by simp only [maxLen]; omega) (by omega) (Nat.zero_le _) _ rfl ?_)
              intro gg capx w9 hown hgrow hat hlt9
              obtain ⟨B9,hpu⟩:=OP8.out.push hown hgrow hat hlt9
              have c6:=B9.cell 6
              have f6:=B9.frozen 6
              simp [rlogCells] at c6
              have OP9:=Lib.hid hpu
              clear hown hgrow hat hlt9 B9 hpu OP8 hb9 hi0 hz0 hz1 hz2
              go_wp2_with fail
              go_roundw
              case rel=>exact ⟨j+1,se,bs++[sb],_,_,by go_num,by omega,by omega,rfl,by simp; omega,OP9.out,HGO.out⟩
              case measure=>simp [intOf]; omega
        ·have hst:bs=wholeP 0 low R:=by rw [← HWH.out,wholeP_stop (fun h=>h1 h.1),List.append_nil]
         rw [hst] at OP3
         have h1i:((si:Int) == (j:Int))=false:=by simpa using (show ¬ (si:Int)=(j:Int) by omega)
         have h1j:((si:Int) != (j:Int))=true:=by simp; omega
         clear hst N3 h1
         go_wp2_with fail
         go_meet
         exact ⟨_,_,OP3.out⟩
     ·obtain rfl:j=low+i:=by omega
      have hst:bs=wholeP 0 low R:=by
       rw [← HWH.out,List.drop_of_length_le (by rw [← HR.out]; simp [ringOf]),show wholeP a (low+i) [] = [] from rfl,List.append_nil]
      rw [hst] at OP
      clear hst
      go_wp2_with fail
      go_meet
      exact ⟨_,_,OP.out⟩
   obtain ⟨F,vb,hop⟩:=hcut
   have OP:=Lib.hid hop
   clear hop OP5
   have hwl:(wholeP 0 low R).length≤i:=by
    have:=wholeP_len 0 low R
    rw [← HR.out] at this ⊢
    simpa [ringOf] using this
   have hwli:((wholeP 0 low R).length:Int)≤64:=by omega
   generalize hbs:wholeP 0 low R=bs at *
   have HBS:=Lib.hid hbs
   clear hbs
   have CB:Hid (∀ W,Below wc.heap.size wc W→W.cell? ⟨g,6,none⟩=some vb):=fun W hW=>(OP.out.more hW).r.cells.2.2.2.2.2.2
   obtain ⟨va,vc,hvb⟩:=own_slice OP.out.r.rows
   subst hvb
   go_upto_region 26 with fail
   have c6:=CB.out wc (Below.refl _ _)
   have c4:=OP.out.r.cells.2.2.2.2.1
   have f4:=OP.out.r.head.frozen 4
   have OP9:=Lib.hid (OP.out.setFirst (low+bs.length))
   rw [show ((low+bs.length:Nat):Int)=(low:Int)+(bs.length:Int) by omega] at OP9
   clear CB OP
   go_upto_region 27 with fail
   generalize wc.setCell ⟨g,4,none⟩ (.int .i64 ((low:Int)+(bs.length:Int)))=w9 at *
   clear c4 f4 c6
   have B4:Below w9.heap.size w9 (w9.alloc (.cells #[.string ⟨#[]⟩] 9)):=(Below.refl _ _).alloc (Nat.le_refl _) _
   have OP10:=Lib.hid (OP9.out.more B4)
   have c6:w9.cell? ⟨g,6,none⟩=some (.slice va bs.length vc):=OP9.out.r.cells.2.2.2.2.2.2
   obtain ⟨i0,hi0,hz0,hz1,hz2⟩:=info_parts info_str
   clear B4 OP9
   go_wp2_with (at_builtin; refine wpList_append_lies _ rfl (.tmp 155) (.tmp 156) 62 rfl 0 9 i0 _ 1 16 Tryz.underlying62 hi0 hz0 hz1 hz2 rfl (by decide) _ _ _ rfl OP10.out.r.rows ⟨w9.heap.size,0,none⟩ 1 1 [.string ⟨#[]⟩] rfl rfl (World.news_of_block (heap_alloc_new w9 _)) (by simp [Value.oneCell']) (by omega) (by simp only [maxLen]; omega) (by omega) (Nat.zero_le _) _ rfl ?_)
   intro gg capx w11 hown hgrow hat hlt9
   obtain ⟨B11,hpu⟩:=OP10.out.push hown hgrow (by rw [World.size_alloc]; exact hat) hlt9
   have c6:=B11.cell 6
   have f6:=B11.frozen 6
   simp [rlogCells] at c6
   have OP11:=Lib.hid hpu
   clear hown hgrow hat hlt9 B11 hpu OP10 hi0 hz0 hz1 hz2
   go_wp2_with fail
   go_ret2
   obtain ⟨h1,h2,h3,h4,h5⟩:=HNUM.out
   have OKO:=Wl.Ok.opened (D:=D) h1 h2 h3 h4 h5
   have hring:ringOf (Wl.head base i low) D i=R:=HR.out
   have hB:(Wl.opened D base i low).B=bs++[(⟨#[]⟩:ByteArray)]:=by
    have hf:(Wl.opened D base i low).first=(Wl.opened D base i low).end_:=by unfold Wl.opened Wl.end_; simp
    rw [Wl.B_idle hf,Wl.opened_bodies,hring,HBS.out]
   have hr:=OP11.out.r.other (l':=Wl.opened D base i low) rfl rfl rfl (show low+(wholeP 0 low (ringOf (Wl.head base i low) D i)).length=low+bs.length by rw [hring,HBS.out]) (show epochOf (ringOf (Wl.head base i low) D i)=E from HEP.out.symm)
   rw [← hB] at hr
   exact ⟨g,_,rfl,⟨OKO,_,hr⟩,OP11.out.new,OP11.out.below⟩
end Go.Proofs.YthkbcfhjmnpggaaGreat

namespace Go.Proofs.YthkbcfhjmnpggaaGreat
open Go.RowKit
end Go.Proofs.YthkbcfhjmnpggaaGreat

namespace Go.Proofs.YthkbcfhjmnpggaaGreat
namespace Act7
end Act7
end Go.Proofs.YthkbcfhjmnpggaaGreat

namespace Go.Proofs.YthkbcfhjmnpggaaGreat
open Go.RowKit
abbrev Pag:=Int × ByteArray
def Pag.Right (p:Pag):Prop:=PgOk p.1 p.2
def oneB (j:Nat):ByteArray:=⟨#[UInt8.ofNat j]⟩
abbrev Sg:=Nat→Option (Nat × ByteArray)
def upd (σ:Sg) (k:Nat) (x:Nat × ByteArray):Sg:=fun q=>if q=k then some x else σ q
def Body (n k:Nat) (b:ByteArray):Prop:=if k=2 then ∃ j,j < n∧b=oneB j else b.size=112
def Tidy (n t:Nat) (σ:Sg):Prop:=∀ k,k < 3+2*n→∀ e b,σ k=some (e,b)→e < t∧Body n k b
/-! Writes of a store's sectors, and syncs. -/
namespace SA
end SA
theorem Body.size {n k:Nat} {b:ByteArray} (h:Body n k b):b.size≤112:=by
 unfold Body at h
 split at h
 ·obtain ⟨j,_,rfl⟩:=h
  show 1≤112
  omega
 · omega
end Go.Proofs.YthkbcfhjmnpggaaGreat

namespace Go.Proofs.YthkbcfhjmnpggaaGreat
open Go.RowKit
section
variable {σ σ':Sg} {n t i:Nat} {P:Nat→Pag} {p:Pag}
end
end Go.Proofs.YthkbcfhjmnpggaaGreat

namespace Go.Proofs.YthkbcfhjmnpggaaGreat
open Go.RowKit
section
variable {D:Dk} {base n t i:Nat} {σ:Sg} {P:Nat→Pag} {p:Pag}
namespace Lies
end Lies
end
end Go.Proofs.YthkbcfhjmnpggaaGreat

namespace Go.Proofs.YthkbcfhjmnpggaaGreat
open Go.RowKit
section
variable {σ:Sg} {n t k:Nat}
theorem Tidy.at_ (h:Tidy n t σ) (hk:k < 3+2*n) {x:Nat × ByteArray} (hx:σ k=some x):x.1 < t∧Body n k x.2:=h k hk x.1 x.2 hx
end
section
variable {p:Pag} (h:p.Right) (w:World)
include h
end
end Go.Proofs.YthkbcfhjmnpggaaGreat

namespace Go.Proofs.YthkbcfhjmnpggaaGreat
open Go.RowKit
namespace IsSto
variable {w w':World} {F F':Foot} {s gd base n t:Nat} {D D':Dk}
end IsSto
section
variable {w:World} {F:Foot} {s gd base n t:Nat} {D:Dk}
end
end Go.Proofs.YthkbcfhjmnpggaaGreat

namespace Go.Proofs.YthkbcfhjmnpggaaGreat
open Go.RowKit
section
variable {w:World} {F:Foot} {s gd base n t T:Nat} {D:Dk} {σ:Sg}
end
end Go.Proofs.YthkbcfhjmnpggaaGreat

namespace Go.Proofs.YthkbcfhjmnpggaaGreat
open Go.RowKit
section
variable {w:World} {F:Foot} {s gd base n t:Nat} {D:Dk}
end
end Go.Proofs.YthkbcfhjmnpggaaGreat

namespace Go.Proofs.YthkbcfhjmnpggaaGreat
open Go.RowKit
namespace IsR7
variable {w w':World} {F F':Foot} {s gd base n t:Nat} {D D':Dk}
end IsR7
section
variable {w:World} {F:Foot} {s gd base n t:Nat} {D:Dk}
end
end Go.Proofs.YthkbcfhjmnpggaaGreat

namespace Go.Proofs.YthkbcfhjmnpggaaGreat
open Go.RowKit
structure Fr8 where
 no:Nat
 pg:Pag
 dirty:Bool
 since:Int
abbrev Frs:=List (Option Fr8)
def isNo (i:Int):Option Fr8→Bool
 | some f=>(f.no:Int) == i
 | none=>false
def holds (l:Frs) (i:Int):Option Nat:=l.findIdx? (isNo i)
def free (l:Frs):Option Nat:=l.findIdx? fun x=>x.isNone
structure Y8 where
 D:Dk
 t:Nat
 lg:Wl
 l:Frs
 hand:Nat
 P:Nat→Pag
namespace Y8
end Y8
/-! What stays true of it. -/
/-! A flush as writes and a sync. -/
namespace Ok8
variable {base n:Nat} {Y:Y8}
end Ok8
end Go.Proofs.YthkbcfhjmnpggaaGreat
