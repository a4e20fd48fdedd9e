/- Texts that belong together, joined: TaZ. -/
import Derived.Test.YthkbcfhjmnpggaaGreatK42
import Derived.Test.YthkbcfhjmnpggaaGreatK34
namespace Go.Proofs.YthkbcfhjmnpggaaGreat
open Go.RowKit
theorem rtNew_is (w:World):IsRt (w.alloc (.cells #[.int .i64 1,.slice none 0 0] 42)) (· = w.heap.size) w.heap.size Tp.new :=
 ⟨Tp.Ok.new,.slice none 0 0,[],Blk.new _ _ _,OwnE.nil _ _,rfl,rfl,fun b hb=>by simp [Value.ownBlock] at hb,fun x hx=>by simp at hx,fun b hb=>by subst hb; simp⟩
attribute [go_sem] page_guard page_neq
set_option maxRecDepth 100000 in
set_option maxHeartbeats 16000000 in
theorem tapePlays_some (N:Nat) (h8:8≤N) (h64:N≤64) (v:Value) (ops:List OpT) (p:Int) (w:World) (hv:IsOpsT w v ops) (hlong:¬ isLongT ops) :
 Calls Tryz.prog 3 #[.int .i64 N,v,.int .i64 p] w fun e w'=>e=.returned (.bool true)∧Below w.heap.size w w':=by
 have LG:=Lib.hid (fun W (hW:Below w.heap.size w W)=>longT_any v ops W (hv.keep hW) false (by simp [hlong]))
 have H8:=Lib.hid (And.intro h8 h64)
 have HV:=Lib.hid hv
 have HFIT:Hid (∀ o ∈ ops,Fit o.r∧o.picks.length≤200):=fun o ho=>⟨Classical.byContradiction fun h=>hlong (.inl ⟨o,ho,.inl h⟩),Nat.not_lt.1 fun h=>hlong (.inl ⟨o,ho,.inr h⟩)⟩
 have hm2:(ops.length:Int)≤200:=Int.not_lt.1 fun h=>hlong (.inr (by omega))
 obtain ⟨a,cap,rfl,h1,h2,_⟩:=hv
 clear h1 h2 hlong h8 h64
 go_enter Tryz.func3,Tryz.ntmps3
 go_wp2_with fail
 refine (new_ok 64 w (by omega) (by omega)).mono ?_
 rintro e w1 ⟨gd,FD,rfl,hd1,hFD,hb1⟩
 have L1:=Lib.hid hb1
 have HD:=Lib.hid hd1
 have HFD:=Lib.hid hFD
 clear hb1 hd1 hFD
 go_wp2_with fail
 refine (refNew_any 64 w1 (by omega)).mono ?_
 rintro e w2 ⟨hd,GD,rfl,hr,hGD,hb2⟩
 have L2:=Lib.hid (below2 L1.out hb2)
 have HD2:=Lib.hid (HD.out.below hb2)
 have HR:=Lib.hid hr
 have HGD:Hid ((∀ b,GD b→w.heap.size≤b)∧∀ b,FD b→¬ GD b):=⟨fun b hb=>Nat.le_trans L1.out.size (hGD b hb),fun b hb hg=>by have:=HD.out.lt b hb; have:=hGD b hg; omega⟩
 clear hb2 L1 HD hr hGD
 go_wp2_with fail
 refine (logNew_ok HD2.out 0 N H8.out.1 H8.out.2 (by have:=H8.out.2; simp [Dk.new]; omega)).mono ?_
 rintro e w3 ⟨g,rfl,hl3,hg3,hb3⟩
 have L3:=Lib.hid (below2 L2.out hb3)
 have HR3:=Lib.hid (HR.out.below hb3)
 have HD3:=Lib.hid (HD2.out.below hb3)
 have HL3:=Lib.hid hl3
 have HG3:Hid (w.heap.size≤g∧¬ FD g∧¬ GD g):=⟨Nat.le_trans L2.out.size hg3,fun e=>by have:=HD2.out.lt g e; omega,fun e=>by have:=HR.out.lt g e; omega⟩
 clear hb3 L2 HD2 HR hl3 hg3
 go_wp2_with fail
 refine (rlNew_ok HR3.out (Dk.Ok.new (by omega) (by omega)) 0 N H8.out.1 H8.out.2 (by have:=H8.out.2; simp [Dk.new]; omega)).mono ?_
 rintro e w4 ⟨h,rfl,hm4,hh4,hb4⟩
 have START4:Hid (Below w.heap.size w w4∧IsDisk w4 FD gd (Dk.new 64)∧IsLog w4 (· = g) g gd (Wl.new 0 N)∧SysR w4 GD (fun b=>b=w3.heap.size∨b=h) h hd (Dk.new 64) (Wl.new 0 N)∧w3.heap.size≤h∧w.heap.size≤w3.heap.size∧(∀ b,FD b→b < w3.heap.size)∧g < w3.heap.size) :=
  ⟨below2 L3.out hb4,HD3.out.below hb4,HL3.out.below hb4,⟨HR3.out.below hb4,Dk.Ok.new (by omega) (by omega),hm4,fun b hb e=>by have:=HR3.out.lt b hb; omega⟩,hh4,L3.out.size,HD3.out.lt,HL3.out.lt g rfl⟩
 clear hb4 L3 HR3 HD3 HL3 hm4 hh4
 generalize w3.heap.size=s3 at *
 go_wp2_with fail
 refine (awake15_any _).mono ?_
 rintro e w5 ⟨rfl,hb5⟩
 have L5:=Lib.hid hb5
 clear hb5
 go_wp2_with fail
 refine (LG.out _ (below2 START4.out.1 L5.out)).mono ?_
 rintro e w6 ⟨rfl,hb6⟩
 have L6:=Lib.hid (below2 L5.out hb6)
 clear hb6 L5 LG
 go_wp2_with fail
 refine (tapeNew_any _).mono ?_
 rintro e w7 ⟨rfl,hT,hb7⟩
 have H7:=Lib.hid hb7
 have HT:=Lib.hid hT
 have B8:=Lib.hid ((Below.refl w7.heap.size w7).alloc (Nat.le_refl _) (.cells #[.int .i64 1,.slice none 0 0] 42))
 have START:Hid (∃ F G,PlaysAt w (w7.alloc (.cells #[.int .i64 1,.slice none 0 0] 42)) N 0 F g gd w6.heap.size G h hd w7.heap.size (Dk.new 64) (Wl.new 0 N) Tp.new):=by
  obtain ⟨s1,s2,s3',s4,s5,s6,s7,s8⟩:=START4.out
  have k4:Below w4.heap.size w4 w7:=below2 L6.out hb7
  have k8:Below w4.heap.size w4 (w7.alloc (.cells #[.int .i64 1,.slice none 0 0] 42)):=below2 k4 B8.out
  have z4:=L6.out.size
  have z7:=hb7.size
  have z3:s3≤w4.heap.size:=by have:=s4.log.lt h (.inr rfl); omega
  have zt:w6.heap.size < w7.heap.size:=hT.lt _ rfl
  have zw:=s1.size
  refine ⟨_,_,⟨⟨FD,(· = g),(· = w6.heap.size),⟨⟨⟨s2.below k8,s3'.below k8,fun b hb e=>HG3.out.2.1 (e ▸ hb)⟩,HFD.out,fun b e=>by subst e; exact HG3.out.1,below2 s1 k8⟩,hT.below B8.out,fun b e=>by subst e; omega,fun b e hb=>?_⟩,rfl⟩,⟨GD,_,(· = w7.heap.size),⟨s4.more k8,rtNew_is w7,fun b e hb=>?_⟩,rfl⟩,fun b hb hg=>?_,fun b hb=>?_⟩,Keep15.new H8.out.1 H8.out.2,Nat.zero_le _⟩
  ·subst e
   rcases hb with hb | hb
   · have:=s7 _ hb; omega
   · omega
  ·subst e
   rcases hb with hb | hb
   · have:=s4.disk.lt _ hb; omega
   · have:=s4.log.lt _ hb; omega
  ·rcases hb with (hb | hb) | hb
   ·rcases hg with (hg | hg) | hg
    · exact HGD.out.2 b hb hg
    ·have:=s7 b hb
     rcases hg with hg | hg <;> omega
    · have:=s7 b hb; omega
   ·subst hb
    rcases hg with (hg | hg) | hg
    · exact HG3.out.2.2 hg
    · rcases hg with hg | hg <;> omega
    · omega
   ·subst hb
    rcases hg with (hg | hg) | hg
    · have:=s4.disk.lt _ hg; omega
    · have:=s4.log.lt _ hg; omega
    · omega
  ·rcases hb with (hb | hb) | hb
   · exact HGD.out.1 b hb
   · rcases hb with hb | hb <;> omega
   · omega
 clear hT hb7 H7 HT START4 L6 HG3 HGD HFD
 have BB:=B8.out.size
 clear BB
 go_wp2_with fail
 generalize w7.alloc (.cells #[.int .i64 1,.slice none 0 0] 42)=w8 at *
 generalize w6.heap.size=gt at *
 generalize w7.heap.size=ht at *
 go_loopw [10,12,14,18,19,20,21,22,23,24,25,26,28,30,64] (fun v10 v12 v14 _ _ _ _ _ _ _ _ _ _ _ vk wr=>∃ k:Nat,vk=.int .i64 k∧k≤ops.length∧∃ F g gt G h D l t,v10=.pointer (some ⟨g,0,none⟩)∧v12=.pointer (some ⟨h,0,none⟩)∧v14=.pointer (some ⟨gt,0,none⟩)∧PlaysAt w wr N k F g gd gt G h hd ht D l t) (fun _ _ _ _ _ _ _ _ _ _ _ _ _ _ vk _=>ops.length - (intOf vk).toNat)
 case atStart =>
  obtain ⟨F,G,hs⟩:=START.out
  exact ⟨0,rfl,Nat.zero_le _,F,_,_,G,_,_,_,_,rfl,rfl,rfl,hs⟩
 case round =>
  obtain ⟨k,rfl,hk,F,g,gt,G,h,D,lg,t,rfl,rfl,rfl,hst⟩:=hrel
  have ST:=Lib.hid hst
  have HB:=Lib.hid hst.below
  clear hst START
  by_cases hlt:k < ops.length
  ·obtain ⟨b,off,cap',hva,_,_,hbw,hel⟩:=HV.out.at_ (by omega)
   cases hva
   obtain ⟨ta,tc,pa,pc,ka,kc,hls0,hsz,hrd,hnw,hpm,hc⟩:=hel k hlt
   have HL0:=Lib.hid hls0
   have HLS:=Lib.hid (hls0.keep HB.out)
   have HFP:=Lib.hid (HFIT.out _ (List.getElem_mem hlt))
   have HRD:=Lib.hid hrd
   have HPK:Hid (ops[k].picks≠[]→∀ b,(Value.slice ka ops[k].picks.length kc).ownBlock=some b→b < w.heap.size):=fun hp b hb=>by
    rcases hrd.cases with ⟨h0,_⟩ | ⟨b',o',c',e',_,_,hlt',_⟩
    · exact absurd (by simpa [byteVs] using h0) hp
    ·rw [byteVs_len] at e'
     cases e'
     simp only [Value.ownBlock,Option.some.injEq] at hb
     omega
   have HOLD:=Lib.hid hls0.old
   obtain ⟨c0,c1,c2,c3,c4,c5,c6,c7,c8,c9,c10,c11,c12,c13⟩:=hc.keep HB.out
   clear hls0 hsz hel hc hrd hnw hpm
   generalize ops[k]=o at *
   have hn:=Blk.new wr 49 opTZero
   have N3:=hn.setRow (opTCells o (.slice ta o.r.txns.length tc) (.slice pa o.r.pages.length pc) (.slice ka o.picks.length kc))
   have hb3:Below wr.heap.size wr ((wr.alloc (.cells opTZero 49)).setRow wr.heap.size (opTCells o (.slice ta o.r.txns.length tc) (.slice pa o.r.pages.length pc) (.slice ka o.picks.length kc))):=below_setRow ((Below.refl _ _).alloc (Nat.le_refl _) _) (Nat.le_refl _) _
   have ST3:=Lib.hid (ST.out.more hb3)
   have HLS3:=Lib.hid (HLS.out.keep hb3)
   have HX0:Hid (¬ F wr.heap.size∧¬ G wr.heap.size∧w.heap.size≤wr.heap.size):=⟨fun e=>by have:=ST.out.duo.a.lt _ e; omega,fun e=>by have:=ST.out.duo.b.lt _ e; omega,HB.out.size⟩
   go_upto_region 11 with (refine wpList_store_row rfl 49 _ _ rfl wr.heap.size _ rfl rfl 49 _ hn (by kernel_rfl) rfl (by simp [Value.oneCell']) ?_)
   clear hn hb3 c0 c1 c2 c3 c4 c5 c6 c7 c8 c9 c10 c11 c12 c13 HLS HB hbw ST
   change Code.wp _ _ _ _ ((wr.alloc (.cells opTZero 49)).setRow wr.heap.size (opTCells o (.slice ta o.r.txns.length tc) (.slice pa o.r.pages.length pc) (.slice ka o.picks.length kc)))
   generalize (wr.alloc (.cells opTZero 49)).setRow wr.heap.size (opTCells o (.slice ta o.r.txns.length tc) (.slice pa o.r.pages.length pc) (.slice ka o.picks.length kc))=w3 at *
   generalize wr.heap.size=x at *
   have d0:w3.cell? ⟨x,0,none⟩=some (.int .i64 o.kind):=N3.cell 0
   have d1:w3.cell? ⟨x,1,none⟩=some (.int .i64 o.n):=N3.cell 1
   have d2:w3.cell? ⟨x,2,none⟩=some (.int .i64 o.r.kind):=N3.cell 2
   have d3:w3.cell? ⟨x,3,none⟩=some (.int .i64 o.r.txn):=N3.cell 3
   have d4:w3.cell? ⟨x,4,none⟩=some (.int .i64 o.r.page):=N3.cell 4
   have d5:w3.cell? ⟨x,5,none⟩=some (.int .i64 o.r.off):=N3.cell 5
   have d6:w3.cell? ⟨x,6,none⟩=some (.int .i64 o.r.prev):=N3.cell 6
   have d7:w3.cell? ⟨x,7,none⟩=some (.int .i64 o.r.next):=N3.cell 7
   have d8:w3.cell? ⟨x,8,none⟩=some (.int .i64 o.r.beg):=N3.cell 8
   have d9:w3.cell? ⟨x,9,none⟩=some (.string o.r.before):=N3.cell 9
   have d10:w3.cell? ⟨x,10,none⟩=some (.string o.r.after):=N3.cell 10
   have d11:w3.cell? ⟨x,11,none⟩=some (.slice ta o.r.txns.length tc):=N3.cell 11
   have d12:w3.cell? ⟨x,12,none⟩=some (.slice pa o.r.pages.length pc):=N3.cell 12
   have IR:Hid (IsRec w3 (.agg (recCells o.r (.slice ta o.r.txns.length tc) (.slice pa o.r.pages.length pc))) o.r):=⟨_,_,rfl,HLS3.out⟩
   go_upto_block 2 with fail
   go_cut [10,12,14,18,19,20,21,22,64] from 64 to 242 (fun s10 s12 s14 _ _ _ _ _ s64 wx=>s64=.int .i64 k∧∃ F g gt G h D l t,s10=.pointer (some ⟨g,0,none⟩)∧s12=.pointer (some ⟨h,0,none⟩)∧s14=.pointer (some ⟨gt,0,none⟩)∧PlaysAt w wx N (k+1) F g gd gt G h hd ht D l t)
   case first =>
    by_cases k1:o.kind=1
    ·go_wp2_with fail
     refine (ST3.out.duo.a.append IR.out HFP.out.1).mono ?_
     rintro e w7 ⟨rfl,F7,hL7,st7⟩
     have d7':=ST3.out.duo.stepA hL7 st7
     have D7:=Lib.hid d7'
     have N7:Blk w7 x 49 (opTCells o (.slice ta o.r.txns.length tc) (.slice pa o.r.pages.length pc) (.slice ka o.picks.length kc)):=(st7.block x N3.lt HX0.out.1).trans N3
     have IR7:Hid (IsRec w7 (.agg (recCells o.r (.slice ta o.r.txns.length tc) (.slice pa o.r.pages.length pc))) o.r):=⟨_,_,rfl,HL0.out.keep d7'.a.below⟩
     have AP7:=Lib.hid (d7'.b.append IR7.out HFP.out.1)
     clear d0 d1 d2 d3 d4 d5 d6 d7 d8 d9 d10 d11 d12 IR hL7 st7 d7' N3 HLS3
     have d2:w7.cell? ⟨x,2,none⟩=some (.int .i64 o.r.kind):=N7.cell 2
     have d3:w7.cell? ⟨x,3,none⟩=some (.int .i64 o.r.txn):=N7.cell 3
     have d4:w7.cell? ⟨x,4,none⟩=some (.int .i64 o.r.page):=N7.cell 4
     have d5:w7.cell? ⟨x,5,none⟩=some (.int .i64 o.r.off):=N7.cell 5
     have d6:w7.cell? ⟨x,6,none⟩=some (.int .i64 o.r.prev):=N7.cell 6
     have d7:w7.cell? ⟨x,7,none⟩=some (.int .i64 o.r.next):=N7.cell 7
     have d8:w7.cell? ⟨x,8,none⟩=some (.int .i64 o.r.beg):=N7.cell 8
     have d9:w7.cell? ⟨x,9,none⟩=some (.string o.r.before):=N7.cell 9
     have d10:w7.cell? ⟨x,10,none⟩=some (.string o.r.after):=N7.cell 10
     have d11:w7.cell? ⟨x,11,none⟩=some (.slice ta o.r.txns.length tc):=N7.cell 11
     have d12:w7.cell? ⟨x,12,none⟩=some (.slice pa o.r.pages.length pc):=N7.cell 12
     clear N7
     generalize he1:(lg.app o.r).1=at7 at *
     generalize he2:(lg.app o.r).2.1=er7 at *
     clear he1 he2
     go_wp2_with fail
     refine AP7.out.mono ?_
     rintro e w8 ⟨rfl,G8,hM8,st8⟩
     have END:=Lib.hid (ST3.out.appended (D7.out.stepB hM8 st8))
     clear d2 d3 d4 d5 d6 d7 d8 d9 d10 d11 d12 hM8 st8 AP7 D7 ST3 IR7
     go_wp2_with fail
     go_meet
     exact ⟨rfl,_,_,_,_,_,_,_,_,rfl,rfl,rfl,END.out⟩
    by_cases k2:o.kind=2
    ·have FA:=Lib.hid (ST3.out.duo.a.flush (ST3.out.hep (by omega)) (ST3.out.hw (by omega)))
     clear d1 d2 d3 d4 d5 d6 d7 d8 d9 d10 d11 d12 IR N3 HLS3
     go_wp2_with fail
     refine FA.out.mono ?_
     rintro e w7 ⟨rfl,F7,hL7,st7⟩
     have D7:=Lib.hid (ST3.out.duo.stepA hL7 st7)
     have FB:=Lib.hid (D7.out.b.flush (ST3.out.hep (by omega)) (ST3.out.hw (by omega)))
     have DONE:Hid (∀ (W:World) G',Duo15 w W F7 g gd gt (lg.flush D).1 (lg.flush D).2.1 t G' h hd ht (lg.flush D).1 (lg.flush D).2.1 t→PlaysAt w W N (k+1) F7 g gd gt G' h hd ht (lg.flush D).1 (lg.flush D).2.1 t):=fun W G' d=>ST3.out.flushed (by omega) d
     clear d0 hL7 st7 FA ST3
     generalize lg.flush D=R at *
     obtain ⟨D',l',er⟩:=R
     go_wp2_with fail
     refine FB.out.mono ?_
     rintro e w8 ⟨rfl,G8,hM8,st8⟩
     have END:=Lib.hid (DONE.out _ _ (D7.out.stepB hM8 st8))
     clear hM8 st8 FB D7 DONE
     go_wp2_with fail
     go_meet
     exact ⟨rfl,_,_,_,_,_,_,_,_,rfl,rfl,rfl,END.out⟩
    by_cases k3:o.kind=3
    ·have FA:=Lib.hid (ST3.out.duo.a.add (ST3.out.hlen (by omega)))
     clear d1 d2 d3 d4 d5 d6 d7 d8 d9 d10 d11 d12 IR N3 HLS3
     go_wp2_with fail
     refine FA.out.mono ?_
     rintro e w7 ⟨rfl,F7,hL7,st7⟩
     have D7:=Lib.hid (ST3.out.duo.stepA hL7 st7)
     have FB:=Lib.hid (D7.out.b.add (ST3.out.hlen (by omega)))
     have DONE:Hid (∀ (W:World) G',Duo15 w W F7 g gd gt D lg (t.add lg) G' h hd ht D lg (t.add lg)→PlaysAt w W N (k+1) F7 g gd gt G' h hd ht D lg (t.add lg)):=fun W G' d=>ST3.out.added d
     have hadd:t.addN lg≤7168:=t.addN_le ST3.out.keep.ok
     have herr:t.err lg≤11:=by unfold Tp.err; split <;> omega
     have HNE:=Lib.hid (And.intro hadd herr)
     clear d0 hL7 st7 FA ST3 hadd herr
     generalize t.addN lg=an at *
     generalize t.err lg=er at *
     go_wp2_with fail
     refine FB.out.mono ?_
     rintro e w8 ⟨rfl,G8,hM8,st8⟩
     have END:=Lib.hid (DONE.out _ _ (D7.out.stepB hM8 st8))
     have hadd:=HNE.out.1
     have herr:=HNE.out.2
     clear hM8 st8 FB D7 DONE
     go_wp2_with fail
     go_meet
     exact ⟨rfl,_,_,_,_,_,_,_,_,rfl,rfl,rfl,END.out⟩
    by_cases k4:o.kind=4
    ·clear d2 d3 d4 d5 d6 d7 d8 d9 d10 d11 d12 IR HLS3 HL0
     have HFI:=Lib.hid (ST3.out.first (by omega))
     have DONE:Hid (∀ (W:World) F' G',Duo15 w W F' g gd gt D (lg.cutI o.n) t G' h hd ht D (lg.cutI o.n) t→PlaysAt w W N (k+1) F' g gd gt G' h hd ht D (lg.cutI o.n) t):=fun W F' G' d=>ST3.out.cutted o.n (by omega) d
     have hce:lg.cutE o.n≤2:=by unfold Wl.cutE; split <;> omega
     have HCE:=Lib.hid hce
     clear hce
     go_upto_region 37 with fail
     have td:=ST3.out.duo.more (Below.refl _ _).drew
     have b1:w3.cell? ⟨x,1,none⟩=some (.int .i64 o.n):=d1
     clear d0 d1
     have CA:∀ W F',Duo15 w W F' g gd gt D lg t G h hd ht D lg t→Calls Tryz.prog 17 #[.pointer (some ⟨g,0,none⟩),.int .i64 o.n] W fun e w'=>e=.returned (.int .i64 (lg.cutE o.n))∧∃ F2,Duo15 w w' F2 g gd gt D (lg.cutI o.n) t G h hd ht D lg t∧Step F' F2 W w':=fun W F' d=>(d.a.cut o.n HFI.out).mono fun _ _ ⟨he,F2,ha,st⟩=>⟨he,F2,d.stepA ha st,st⟩
     have CB:∀ W F',Duo15 w W F' g gd gt D (lg.cutI o.n) t G h hd ht D lg t→Calls Tryz.prog 18 #[.pointer (some ⟨h,0,none⟩),.int .i64 o.n] W fun e w'=>e=.returned (.int .i64 (lg.cutE o.n))∧∃ G2,Duo15 w w' F' g gd gt D (lg.cutI o.n) t G2 h hd ht D (lg.cutI o.n) t∧Step G G2 W w':=fun W F' d=>(d.b.cut o.n HFI.out).mono fun _ _ ⟨he,G2,hb,st⟩=>⟨he,G2,d.stepB hb st,st⟩
     clear ST3
     generalize lg.cutE o.n=ce at *
     go_region_held3 (fun W=>W.cell? ⟨x,1,none⟩=some (.int .i64 o.n)) (first | exact b1 | exact c1 | exact dd1) (first
      | (go_at_call 17; refine (CA _ _ td).mono ?_; rintro e w8 ⟨rfl,F8,T8,hs8⟩; have n8:Blk w8 x 49 (opTCells o (.slice ta o.r.txns.length tc) (.slice pa o.r.pages.length pc) (.slice ka o.picks.length kc)):=(hs8.block x N3.lt HX0.out.1).trans N3; have c1:w8.cell? ⟨x,1,none⟩=some (.int .i64 o.n):=Blk.cell n8 1)
      | (go_at_call 18; refine (CB _ _ T8).mono ?_; rintro e w9 ⟨rfl,G9,T9,hs9⟩; have n9:Blk w9 x 49 (opTCells o (.slice ta o.r.txns.length tc) (.slice pa o.r.pages.length pc) (.slice ka o.picks.length kc)):=(hs9.block x n8.lt HX0.out.2.1).trans n8; have dd1:w9.cell? ⟨x,1,none⟩=some (.int .i64 o.n):=Blk.cell n9 1))
     have END:=Lib.hid (DONE.out _ _ _ T9)
     have hce:=HCE.out
     clear td CA CB T8 T9 hs8 hs9 n8 n9 b1 c1 dd1 DONE
     go_wp2_with fail
     go_meet
     exact ⟨rfl,_,_,_,_,_,_,_,_,rfl,rfl,rfl,END.out⟩
    clear d2 d3 d4 d5 d6 d7 d8 d9 d10 d11 d12 IR HLS3 HL0
    go_wp2_with fail
    obtain ⟨fz,H12,H12L⟩:∃ fz:Nat,Hid (wrap64 ((IntKind.u64.wrap o.n).tmod 6)=(fz:Int))∧Hid ((fz:Int) < 6):=⟨_,modN_eq o.n 6 (by omega) (by omega),modN_lt o.n 6 (by omega)⟩
    have HFZ:Hid ((fz:Int) < 9223372036854775808):=by have:=H12L.out; unfold Hid; omega
    have AA:=Lib.hid (ST3.out.duo.a.arm (fz:Int) HFZ.out)
    rw [H12.out]
    refine AA.out.mono ?_
    rintro e w7 ⟨rfl,F7,hL7,st7⟩
    have D7:=Lib.hid (ST3.out.duo.stepA hL7 st7)
    have N7:Blk w7 x 49 (opTCells o (.slice ta o.r.txns.length tc) (.slice pa o.r.pages.length pc) (.slice ka o.picks.length kc)):=(st7.block x N3.lt HX0.out.1).trans N3
    have HX7:Hid (¬ F7 x):=fun e=>(st7.foot x e).elim HX0.out.1 fun e=>by have:=N3.lt; omega
    clear d0 d1 N3 hL7 st7 AA
    have e1:w7.cell? ⟨x,1,none⟩=some (.int .i64 o.n):=N7.cell 1
    obtain ⟨⟨u,cu⟩,fu,gu,hB8,st8⟩:=D7.out.b.arm (fz:Int) HFZ.out
    rw [if_pos (show (0:Int)≤(fz:Int) by omega)] at hB8 st8
    have D8:=Lib.hid (D7.out.stepB hB8 st8)
    have N8:=Lib.hid (show Blk (w7.setCell ⟨hd,3,none⟩ (.int .i64 (fz:Int))) x 49 (opTCells o (.slice ta o.r.txns.length tc) (.slice pa o.r.pages.length pc) (.slice ka o.picks.length kc)) from (st8.block x N7.lt HX0.out.2.1).trans N7)
    clear gu hB8 st8 N7 D7
    go_wp2_with fail
    rw [H12.out]
    have FA:=Lib.hid (D8.out.a.flush (ST3.out.hep (by omega)) (ST3.out.hw (by omega)))
    have OPN:=Lib.hid (ST3.out.openable (fz:Int) o.picks HFZ.out (by omega) H8.out.2)
    have DONE:Hid (∀ (W:World) F' g' gt' G' h',Duo15 w W F' g' gd gt' (PlaysAt.crD D lg (fz:Int) o.picks) (PlaysAt.crL D lg (fz:Int) o.picks N) t G' h' hd ht (PlaysAt.crD D lg (fz:Int) o.picks) (PlaysAt.crL D lg (fz:Int) o.picks N) t→PlaysAt w W N (k+1) F' g' gd gt' G' h' hd ht (PlaysAt.crD D lg (fz:Int) o.picks) (PlaysAt.crL D lg (fz:Int) o.picks N) t):=fun W F' g' gt' G' h' d=>ST3.out.crashed (fz:Int) o.picks HFZ.out (by omega) H8.out.1 H8.out.2 d
    have HEP:Hid (lg.epoch < 4294967296∧(D.arm (fz:Int)).waits.length≤1000000∧t.l.length≤40000000):=⟨ST3.out.hep (by omega),ST3.out.hw (by omega),ST3.out.hlen (by omega)⟩
    unfold PlaysAt.crL PlaysAt.crD at DONE OPN
    clear cu fu e1 ST3 H12 HFZ
    generalize (w7.setCell ⟨hd,3,none⟩ (.int .i64 (fz:Int)))=w8' at *
    refine FA.out.mono ?_
    rintro e w9 ⟨rfl,F9,hL9,st9⟩
    have D9:=Lib.hid (D8.out.stepA hL9 st9)
    have N9:=Lib.hid (show Blk w9 x 49 (opTCells o (.slice ta o.r.txns.length tc) (.slice pa o.r.pages.length pc) (.slice ka o.picks.length kc)) from (st9.block x N8.out.lt HX7.out).trans N8.out)
    have HX9:Hid (¬ F9 x):=fun e=>(st9.foot x e).elim HX7.out fun e=>by have:=N8.out.lt; omega
    have FB:=Lib.hid (D9.out.b.flush HEP.out.1 HEP.out.2.1)
    clear hL9 st9 FA D8 N8 HX7
    generalize lg.flush (D.arm (fz:Int))=R at *
    obtain ⟨DD,LL,er⟩:=R
    simp only at OPN DONE D9 FB
    go_wp2_with fail
    refine FB.out.mono ?_
    rintro e w10 ⟨rfl,G10,hM10,st10⟩
    have D10:=Lib.hid (D9.out.stepB hM10 st10)
    have N10:Blk w10 x 49 (opTCells o (.slice ta o.r.txns.length tc) (.slice pa o.r.pages.length pc) (.slice ka o.picks.length kc)):=(st10.block x N9.out.lt HX0.out.2.1).trans N9.out
    have HX10:Hid (¬ G10 x):=fun e=>(st10.foot x e).elim HX0.out.2.1 fun e=>by have:=N9.out.lt; omega
    have CA:=Lib.hid (D10.out.a.crash _ o.picks (HRD.out.keep D10.out.a.below) HPK.out)
    have e13:w10.cell? ⟨x,13,none⟩=some (.slice ka o.picks.length kc):=N10.cell 13
    clear hM10 st10 FB D9 N9
    go_wp2_with fail
    refine CA.out.mono ?_
    rintro e w11 ⟨rfl,F11,hL11,st11⟩
    have D11:=Lib.hid (D10.out.stepA hL11 st11)
    have N11:Blk w11 x 49 (opTCells o (.slice ta o.r.txns.length tc) (.slice pa o.r.pages.length pc) (.slice ka o.picks.length kc)):=(st11.block x N10.lt HX9.out).trans N10
    have f13:w11.cell? ⟨x,13,none⟩=some (.slice ka o.picks.length kc):=N11.cell 13
    have CB:=Lib.hid (D11.out.b.crash _ o.picks (HRD.out.keep D11.out.a.below) fun hp b hb hG=>by have:=HPK.out hp b hb; have:=D11.out.ng b hG; omega)
    clear e13 hL11 st11 CA D10 N10
    go_wp2_with fail
    refine CB.out.mono ?_
    rintro e w12 ⟨rfl,G12,hM12,st12⟩
    have d12':=D11.out.stepB hM12 st12
    have D12:=Lib.hid d12'
    have OA:=Lib.hid (d12'.a.open_ OPN.out.1 0 N LL.low H8.out.1 H8.out.2 OPN.out.2.1 OPN.out.2.2.1 OPN.out.2.2.2)
    have lw:w12.cell? ⟨h,3,none⟩=some (.int .i64 LL.low):=d12'.b.low
    clear f13 N11 hM12 st12 CB D11 d12'
    go_wp2_with fail
    refine OA.out.mono ?_
    rintro e w13 ⟨g2,F13,rfl,hL13,st13⟩
    have d13':=D12.out.stepA hL13 st13
    have D13:=Lib.hid d13'
    have OB:=Lib.hid (d13'.b.open_ OPN.out.1 0 N LL.low H8.out.1 H8.out.2 OPN.out.2.1 OPN.out.2.2.1 OPN.out.2.2.2)
    have lx:w13.cell? ⟨h,3,none⟩=some (.int .i64 LL.low):=d13'.b.low
    clear lw hL13 st13 OA D12 d13'
    go_wp2_with fail
    refine OB.out.mono ?_
    rintro e w14 ⟨h2,G14,rfl,hM14,st14⟩
    have D14:=Lib.hid (D13.out.stepB hM14 st14)
    have CP:=Lib.hid (D14.out.a.copy)
    clear lx hM14 st14 OB D13
    go_wp2_with fail
    refine CP.out.mono ?_
    rintro e w15 ⟨g3,F3,rfl,hT3,hF3,hA15,hb15⟩
    have D15:=Lib.hid (D14.out.more hb15)
    have T3:=Lib.hid hT3
    have HF3:Hid ((∀ b,F3 b→w.heap.size≤b)∧(∀ b,F3 b→¬ F13 b)∧∀ b,F3 b→¬ G14 b):=⟨fun b hb=>Nat.le_trans D14.out.a.below.size (hF3 b hb),fun b hb e=>by have:=hF3 b hb; have:=D14.out.a.lt b e; omega,fun b hb e=>by have:=hF3 b hb; have:=D14.out.b.lt b e; omega⟩
    have AD:=Lib.hid (D15.out.a.add HEP.out.2.2)
    clear hT3 hF3 hA15 hb15 CP D14
    go_wp2_with fail
    refine AD.out.mono ?_
    rintro e w16 ⟨rfl,F16,hL16,st16⟩
    have D16:=Lib.hid (D15.out.stepA hL16 st16)
    obtain ⟨F17,d17⟩:=D16.out.swap (T3.out.only (S:=F13) ⟨st16.os,st16.tape,st16.output,st16.size,st16.block⟩ HF3.out.2.1) HF3.out.1 (fun b hb e=>(st16.foot b e).elim (HF3.out.2.1 b hb) fun e=>by have:=T3.out.lt b hb; omega) HF3.out.2.2
    have END:=Lib.hid (DONE.out _ _ _ _ _ _ d17)
    clear hL16 st16 d17 AD D15 D16 T3 HF3 DONE OPN
    go_wp2_with fail
    go_meet
    exact ⟨rfl,_,_,_,_,_,_,_,_,rfl,rfl,rfl,END.out⟩
   case rest =>
    obtain ⟨rfl,F,g,gt,G,h,D,lg,t,rfl,rfl,rfl,hq⟩:=hcut
    have HL2:=Lib.hid (hq.hlen (show k+1≤201 by omega))
    have Q:=Lib.hid hq
    have WA:=Lib.hid (hq.duo.a.whole HL2.out)
    have HKL:=Lib.hid hlt
    clear hq ST3 HX0 IR HLS3 HL0 N3 HPK HRD HFP HOLD hlt HV d0 d1 d2 d3 d4 d5 d6 d7 d8 d9 d10 d11 d12
    as_aux_lemma =>
     go_wp2_with fail
     refine WA.out.mono ?_
     rintro e w7 ⟨v1,q1,rfl,he1,ho1,hb7,_⟩
     have E7:Hid (IsEnts w7 v1 (t.whole lg)):=by rw [← he1]; exact ho1.isEnts
     have Q7:=Lib.hid (Q.out.more hb7)
     have WB:=Lib.hid (Q7.out.duo.b.whole HL2.out)
     clear he1 ho1 hb7 Q WA
     go_wp2_with fail
     refine WB.out.mono ?_
     rintro e w8 ⟨v2,rfl,e2,hb8⟩
     have E8:=Lib.hid (E7.out.keep hb8)
     have M8:=Lib.hid e2
     have Q8:=Lib.hid (Q7.out.more hb8)
     have PA0:=Q8.out.duo.a.page HL2.out p
     have PB0:∀ W,PlaysAt w W N (k+1) F g gd gt G h hd ht D lg t→_:=fun W (hW:PlaysAt w W N (k+1) F g gd gt G h hd ht D lg t)=>hW.duo.b.page HL2.out p
     clear e2 hb8 E7 Q7 WB
     generalize t.page lg p=pg at *
     generalize t.err lg=er at *
     have PA:=Lib.hid PA0
     have PB:=Lib.hid PB0
     clear PA0 PB0
     go_wp2_with fail
     refine PA.out.mono ?_
     rintro e w9 ⟨rfl,hb9⟩
     have X9:=Blk.new w9 76 #[.int .i64 pg.1,.string pg.2]
     have hba:Below w8.heap.size w8 (w9.alloc (.cells #[.int .i64 pg.1,.string pg.2] 76)):=below2 hb9 ((Below.refl _ _).alloc (Nat.le_refl _) _)
     have E9:=Lib.hid (E8.out.keep hba)
     have M9:=Lib.hid (M8.out.keep hba)
     have Q9:=Lib.hid (Q8.out.more hba)
     clear hb9 hba E8 M8 Q8 PA
     go_upto_region 42 with fail
     change Code.wp _ _ _ _ (w9.alloc (.cells #[.int .i64 pg.1,.string pg.2] 76))
     generalize w9.alloc (.cells #[.int .i64 pg.1,.string pg.2] 76)=w10 at *
     generalize w9.heap.size=y1 at *
     have PB10:=Lib.hid (PB.out _ Q9.out)
     go_wp2_with fail
     refine PB10.out.mono ?_
     rintro e w11 ⟨rfl,hb11⟩
     have hba:=(Below.refl w11.heap.size w11).alloc (Nat.le_refl _) (.cells #[.int .i64 pg.1,.string pg.2] 76)
     have hbb:=below2 hb11 hba
     have X12:=X9.keep hbb X9.lt
     have Z12:=Blk.new w11 76 #[.int .i64 pg.1,.string pg.2]
     have E12:=Lib.hid (E9.out.keep hbb)
     have M12:=Lib.hid (M9.out.keep hbb)
     have Q12:=Lib.hid (Q9.out.more hbb)
     clear hb11 hba hbb X9 E9 M9 Q9 PB PB10
     go_upto_region 43 with fail
     change Code.wp _ _ _ _ (w11.alloc (.cells #[.int .i64 pg.1,.string pg.2] 76))
     generalize w11.alloc (.cells #[.int .i64 pg.1,.string pg.2] 76)=w12 at *
     generalize w11.heap.size=y2 at *
     obtain ⟨vl,u1,hvl⟩:=Q12.out.duo.b.list
     have u0:=Q12.out.duo.b.upto
     have ML:=Lib.hid hvl
     have LHT:Hid (ht < w12.heap.size):=World.block_lt_of_cell? w12 _ u0
     have KB:Hid (∀ W W',Below W.heap.size W W'→ht < W.heap.size→Blk W y1 76 #[.int .i64 pg.1,.string pg.2]→Blk W y2 76 #[.int .i64 pg.1,.string pg.2]→W.cell? ⟨ht,0,none⟩=some (.int .i64 t.upto)→W.cell? ⟨ht,1,none⟩=some vl→ht < W'.heap.size∧Blk W' y1 76 #[.int .i64 pg.1,.string pg.2]∧Blk W' y2 76 #[.int .i64 pg.1,.string pg.2]∧W'.cell? ⟨ht,0,none⟩=some (.int .i64 t.upto)∧W'.cell? ⟨ht,1,none⟩=some vl) :=
      fun W W' hb hl h1 h2 h3 h4=>⟨Nat.lt_of_lt_of_le hl hb.size,h1.keep hb h1.lt,h2.keep hb h2.lt,(hb.cell (p:=⟨ht,0,none⟩) hl).trans h3,(hb.cell (p:=⟨ht,1,none⟩) hl).trans h4⟩
     have SS:Hid (∀ W,Blk W y1 76 #[.int .i64 pg.1,.string pg.2]→Blk W y2 76 #[.int .i64 pg.1,.string pg.2]→W.cell? ⟨ht,0,none⟩=some (.int .i64 t.upto)→W.cell? ⟨ht,1,none⟩=some vl→(W.cell? ⟨y1,0,none⟩=some (.int .i64 pg.1)∧W.cell? ⟨y1,1,none⟩=some (.string pg.2)∧W.cell? ⟨y2,0,none⟩=some (.int .i64 pg.1)∧W.cell? ⟨y2,1,none⟩=some (.string pg.2)∧W.cell? ⟨ht,0,none⟩=some (.int .i64 t.upto)∧W.cell? ⟨ht,1,none⟩=some vl)):=fun W h1 h2 h3 h4=>⟨h1.cell 0,h1.cell 1,h2.cell 0,h2.cell 1,h3,h4⟩
     have td:=Q12.out.more (Below.refl _ _).drew
     have ed:=Lib.hid (E12.out.keep (Below.refl _ _).drew)
     have md:=Lib.hid (M12.out.keep (Below.refl _ _).drew)
     have ld:=Lib.hid (ML.out.keep (Below.refl _ _).drew)
     have a0:Blk w12.drew y1 76 #[.int .i64 pg.1,.string pg.2]:=X12
     have b0:Blk w12.drew y2 76 #[.int .i64 pg.1,.string pg.2]:=Z12
     have f0:w12.drew.cell? ⟨ht,0,none⟩=some (.int .i64 t.upto):=u0
     have g0:w12.drew.cell? ⟨ht,1,none⟩=some vl:=u1
     have l0:Hid (ht < w12.drew.heap.size):=LHT.out
     clear X12 Z12 u0 u1 hvl
     go_region_held3 (fun W=>W.cell? ⟨y1,0,none⟩=some (.int .i64 pg.1)∧W.cell? ⟨y1,1,none⟩=some (.string pg.2)∧W.cell? ⟨y2,0,none⟩=some (.int .i64 pg.1)∧W.cell? ⟨y2,1,none⟩=some (.string pg.2)∧W.cell? ⟨ht,0,none⟩=some (.int .i64 t.upto)∧W.cell? ⟨ht,1,none⟩=some vl) (first | exact SS.out _ a0 b0 f0 g0 | exact SS.out _ a1 b1 f1 g1 | exact SS.out _ a2 b2 f2 g2 | exact SS.out _ a3 b3 f3 g3) (first
      | (go_at_call 29; refine (refSameAll_any o3.out lb.out true (by simp)).mono ?_; rintro e wd ⟨rfl,hbd⟩; have tdd:=tb.more hbd; obtain ⟨l3,a3,b3,f3,g3⟩:=KB.out _ _ hbd L2.out a2 b2 f2 g2; have L3:=Lib.hid l3; clear l3)
      | (go_at_call 29; refine (refSameAll_any ed.out md.out true (by simp)).mono ?_; rintro e wa ⟨rfl,hba⟩; have ta:=td.more hba; have la:=Lib.hid (ld.out.keep hba); obtain ⟨l1,a1,b1,f1,g1⟩:=KB.out _ _ hba l0.out a0 b0 f0 g0; have L1:=Lib.hid l1; clear l1)
      | (go_at_call 30; refine ta.duo.a.upto.mono ?_; rintro e wb ⟨rfl,rfl⟩)
      | (go_at_call 31; refine ta.duo.a.list.mono ?_; rintro e wb ⟨v3,q3,rfl,hq3,ho3,hbb,_⟩; have tb:=ta.more hbb; have lb:=Lib.hid (la.out.keep hbb); have o3:Hid (IsEnts wb v3 t.l):=(by rw [← hq3]; exact ho3.isEnts); obtain ⟨l2,a2,b2,f2,g2⟩:=KB.out _ _ hbb L1.out a1 b1 f1 g1; have L2:=Lib.hid l2; clear l2))
     have FIN:=Lib.hid tdd
     clear td ta tb tdd ho3 hq3 hba hbb hbd a0 a1 a2 a3 b0 b1 b2 b3 f0 f1 f2 f3 g0 g1 g2 g3 l0 L1 L2 L3 KB SS
     go_wp2_with fail
     exact ⟨⟨k+1,by go_num,by have:=HKL.out; omega,F,g,gt,G,h,D,lg,t,rfl,rfl,rfl,FIN.out⟩,by simp [intOf]; have:=HKL.out; omega⟩
  ·obtain rfl:k=ops.length:=by omega
   go_wp2
   go_ret
   exact ⟨rfl,HB.out⟩
end Go.Proofs.YthkbcfhjmnpggaaGreat
