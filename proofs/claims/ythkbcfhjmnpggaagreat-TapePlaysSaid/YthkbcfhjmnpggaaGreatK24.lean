/- Texts that belong together, joined: RecU. -/
import Derived.Test.YthkbcfhjmnpggaaGreatK23
import Derived.Test.YthkbcfhjmnpggaaGreatK02
namespace Go.Proofs.YthkbcfhjmnpggaaGreat
open Go.RowKit
theorem row3_num (x:Row3):Row3Ok x↔1≤x.1∧allNum [x.1,x.2.1,x.2.2]=true:=by
 unfold Row3Ok
 simp [allNum]
theorem row2_num (x:Row2):Row2Ok x↔(0≤x.1∧x.1≤7)∧allNum [x.2]=true:=by
 unfold Row2Ok
 simp [allNum]
theorem all_lt {α:Type} {l:List α} {p:α→Prop} (h:∀ j (hj:j < l.length),j < l.length→p l[j]):∀ x ∈ l,p x:=by
 intro x hx
 obtain ⟨j,hj,rfl⟩:=List.mem_iff_getElem.1 hx
 exact h j hj hj
set_option maxRecDepth 100000 in
set_option maxHeartbeats 16000000 in
theorem refMay_6 {w:World} {v:Value} {r:Rc} (hv:IsRec w v r) (hs:r.before.size≤maxLen∧r.after.size≤maxLen) (hk:r.kind=6) (yes:Bool) (hy:yes=true↔May r) :
 Calls Tryz.prog 40 #[v] w fun e w'=>e=.returned (.bool yes)∧Below w.heap.size w w':=by
 obtain ⟨vt,vp,rfl,hl⟩:=hv
 rw [may6 hk] at hy
 have HY:=Lib.hid hy
 have one:=hl.one
 obtain ⟨ta,tc,hvt⟩:=hl.t.form
 obtain ⟨pa,pc,hvp⟩:=hl.p.form
 have VT:=Lib.hid hvt
 have VP:=Lib.hid hvp
 have hlt:=hl.t.le
 have hlp:=hl.p.le
 unfold maxLen at hlt hlp
 clear hvt hvp
 have N0:Blk ((w.alloc (.cells (recCells r vt vp) 46)).alloc (.cells #[.int .i64 0,.int .i64 0,.int .i64 0,.int .i64 0,.int .i64 0,.int .i64 0,.int .i64 0,.string ⟨#[]⟩,.string ⟨#[]⟩,.slice none 0 0,.slice none 0 0] 46)) (w.heap.size+1) 46 #[.int .i64 0,.int .i64 0,.int .i64 0,.int .i64 0,.int .i64 0,.int .i64 0,.int .i64 0,.string ⟨#[]⟩,.string ⟨#[]⟩,.slice none 0 0,.slice none 0 0]:=by
  have:=Blk.new (w.alloc (.cells (recCells r vt vp) 46)) 46 #[.int .i64 0,.int .i64 0,.int .i64 0,.int .i64 0,.int .i64 0,.int .i64 0,.int .i64 0,.string ⟨#[]⟩,.string ⟨#[]⟩,.slice none 0 0,.slice none 0 0]
  rwa [World.size_alloc] at this
 have P0:=(Blk.new w 46 (recCells r vt vp))
 have PA:=((Blk.new w 46 (recCells r vt vp)).alloc (.cells #[.int .i64 0,.int .i64 0,.int .i64 0,.int .i64 0,.int .i64 0,.int .i64 0,.int .i64 0,.string ⟨#[]⟩,.string ⟨#[]⟩,.slice none 0 0,.slice none 0 0] 46)).farRow (k:=w.heap.size+1) (by omega) (recCells r vt vp)
 have PO:=N0.setRow (recCells r vt vp)
 have hB:Below w.heap.size w (((w.alloc (.cells (recCells r vt vp) 46)).alloc (.cells #[.int .i64 0,.int .i64 0,.int .i64 0,.int .i64 0,.int .i64 0,.int .i64 0,.int .i64 0,.string ⟨#[]⟩,.string ⟨#[]⟩,.slice none 0 0,.slice none 0 0] 46)).setRow (w.heap.size+1) (recCells r vt vp)):=below_setRow (((Below.refl _ _).alloc (Nat.le_refl _) _).alloc (by simp) _) (by omega) _
 have LL:=Lib.hid (hl.keep hB)
 have HB:=Lib.hid hB
 have e0:(recCells r vt vp)[0]? = some (.int .i64 r.kind):=rfl
 have e1:(recCells r vt vp)[1]? = some (.int .i64 r.txn):=rfl
 have e2:(recCells r vt vp)[2]? = some (.int .i64 r.page):=rfl
 have e3:(recCells r vt vp)[3]? = some (.int .i64 r.off):=rfl
 have e4:(recCells r vt vp)[4]? = some (.int .i64 r.prev):=rfl
 have e5:(recCells r vt vp)[5]? = some (.int .i64 r.next):=rfl
 have e6:(recCells r vt vp)[6]? = some (.int .i64 r.beg):=rfl
 have e7:(recCells r vt vp)[7]? = some (.string r.before):=rfl
 have e8:(recCells r vt vp)[8]? = some (.string r.after):=rfl
 have e9:(recCells r vt vp)[9]? = some vt:=rfl
 have e10:(recCells r vt vp)[10]? = some vp:=rfl
 obtain ⟨z1,z2⟩:=hs
 clear hy hl hB
 have E1:=e1
 have E2:=e2
 have E3:=e3
 have E4:=e4
 have E5:=e5
 have E6:=e6
 have E7:=e7
 have E8:=e8
 have E9:=e9
 have E10:=e10
 have E0:(recCells r vt vp)[0]? = some (.int .i64 6):=by rw [← hk]; rfl
 have HK:=Lib.hid hk
 clear hk e0 e1 e2 e3 e4 e5 e6 e7 e8 e9 e10
 unfold recV
 go_enter Tryz.func40,Tryz.ntmps40
 go_upto_region 2 with (first
  | (refine wpList_load_row rfl 46 _ rfl w.heap.size rfl 46 _ (0,0) _ P0 Tryz.underlying46 rfl (by kernel_rfl) ?_)
  | (refine wpList_store_row rfl 46 _ _ rfl (w.heap.size+1) _ rfl rfl 46 _ N0 (by kernel_rfl) rfl one ?_))
 have PP:=Lib.hid PA
 have QQ:=Lib.hid PO
 clear P0 N0 one PA PO
 generalize (((w.alloc (.cells (recCells r vt vp) 46)).alloc (.cells #[.int .i64 0,.int .i64 0,.int .i64 0,.int .i64 0,.int .i64 0,.int .i64 0,.int .i64 0,.string ⟨#[]⟩,.string ⟨#[]⟩,.slice none 0 0,.slice none 0 0] 46)).setRow (w.heap.size+1) (recCells r vt vp))=W1 at *
 have c0:=(PP.out.cell 0).trans E0
 have c6:=(PP.out.cell 6).trans E6
 have c9:=(PP.out.cell 9).trans E9
 have c10:=(PP.out.cell 10).trans E10
 rw [VT.out] at c9
 rw [VP.out] at c10
 have hb2:Below W1.heap.size W1 (W1.alloc (.cells (intsV [r.beg]) 3)):=(Below.refl _ _).alloc (Nat.le_refl _) _
 have P2:=PP.out.keep hb2 PP.out.lt
 have Q2:=QQ.out.keep hb2 QQ.out.lt
 have L2:=Lib.hid (LL.out.keep hb2)
 have HB2:=Lib.hid (HB.out.trans (hb2.mono HB.out.size))
 by_cases h2:allNum [r.beg]=true
 ·go_wp2_with fail
  refine (num_any (l:=[r.beg]) (Blk.new W1 _ _) (by simp) true h2.symm).mono ?_
  rintro e w2 ⟨rfl,rfl⟩
  have H2:=Lib.hid h2
  clear hb2 h2 PP QQ LL HB
  generalize (W1.alloc (.cells (intsV [r.beg]) 3))=W2 at *
  clear c0 c6 c9 c10
  have c0:=(P2.cell 0).trans E0
  have c6:=(P2.cell 6).trans E6
  have c9:=(P2.cell 9).trans E9
  have c10:=(P2.cell 10).trans E10
  rw [VT.out] at c9
  rw [VP.out] at c10
  by_cases h6:r.txns.length≤4
  ·have h6':decide (4 < (r.txns.length:Int))=false:=by simp; omega
   have H6:=Lib.hid h6
   by_cases h7:r.pages.length≤8
   ·have h7':decide (8 < (r.pages.length:Int))=false:=by simp; omega
    have H7:=Lib.hid h7
    by_cases h5:r=Rc.tab r.beg r.txns r.pages
    ·have H5:=Lib.hid h5
     clear h5
     go_wp2_with (first
      | (refine wpList_load_rowG rfl 46 _ rfl w.heap.size rfl 46 _ (0,0) _ P2 Tryz.underlying46 rfl (by kernel_rfl) ?_)
      | (refine wpList_load_rowG rfl 46 _ rfl (w.heap.size+1) rfl 46 _ (0,0) _ Q2 Tryz.underlying46 rfl (by kernel_rfl) ?_))
     refine (refSame_any (b:=Rc.tab r.beg r.txns r.pages) ⟨vt,vp,rfl,L2.out⟩ ⟨vt,vp,(by rw [VT.out,VP.out]; try rfl),⟨L2.out.t,L2.out.p⟩⟩ true (by rw [decide_eq_true H5.out])).mono ?_
     rintro e w9 ⟨rfl,hb9⟩
     have HB9:=Lib.hid (below2 HB2.out hb9)
     have P3:=P2.keep hb9 P2.lt
     have L3:=Lib.hid (L2.out.keep hb9)
     have HY6:=Lib.hid (show yes=true↔(∀ x ∈ r.txns,Row3Ok x)∧∀ x ∈ r.pages,Row2Ok x from ⟨fun h=>(HY.out.1 h).2,fun h=>HY.out.2 ⟨⟨H2.out,H6.out,H7.out,H5.out⟩,h⟩⟩)
     clear HY H5 hb9 P2 Q2 L2 HB2 c0 c6 c9 c10
     have c0:=(P3.cell 0).trans E0
     have c6:=(P3.cell 6).trans E6
     have c9:=(P3.cell 9).trans E9
     have c10:=(P3.cell 10).trans E10
     rw [VT.out] at c9
     rw [VP.out] at c10
     have PP:=Lib.hid P3
     clear P3
     go_wp2_with fail
     go_loopw [4] (fun vk wr=>∃ k:Nat,k≤r.txns.length∧vk=.int .i64 k∧(∀ j (hj:j < r.txns.length),j < k→Row3Ok r.txns[j])∧Below w.heap.size w wr∧Blk wr w.heap.size 46 (recCells r vt vp)∧Lists wr r vt vp) (fun vk _=>r.txns.length - (intOf vk).toNat)
     case atStart=>exact ⟨0,Nat.zero_le _,rfl,fun j _ h=>by omega,HB9.out,PP.out,L3.out⟩
     case round =>
      obtain ⟨k,hk,rfl,hno,hB,hP,hL⟩:=hrel
      clear c0 c6 c9 c10
      have PK:=Lib.hid hP
      have HNO:=Lib.hid hno
      have LK:=Lib.hid hL
      have HBK:=Lib.hid hB
      have c0:=(PK.out.cell 0).trans E0
      have c6:=(PK.out.cell 6).trans E6
      have c9:=(PK.out.cell 9).trans E9
      have c10:=(PK.out.cell 10).trans E10
      rw [VT.out] at c9
      rw [VP.out] at c10
      clear hP hno hL hB PP L3 HB9
      by_cases hlt2:k < r.txns.length
      ·obtain ⟨b,off,cap,hv,_,_,hbl,hc⟩:=LK.out.t.at3 (fun e=>by rw [e] at hlt2; simp at hlt2)
       rw [VT.out] at hv
       simp only [Value.slice.injEq] at hv
       obtain ⟨rfl,_,rfl⟩:=hv
       obtain ⟨d0,d1,d2⟩:=hc k hlt2
       have HR3:=Lib.hid (row3_num r.txns[k])
       have HKK:Hid (Row3Ok r.txns[k]→∀ j (hj:j < r.txns.length),j < k+1→Row3Ok r.txns[j]):=fun h j hj hjk=>by
        by_cases e:j=k
        · subst e; exact h
        · exact HNO.out j hj (by omega)
       have HNN:Hid (¬ Row3Ok r.txns[k]→yes=false):=fun h=>Bool.eq_false_iff.2 fun hh=>h ((HY6.out.1 hh).1 _ (List.getElem_mem hlt2))
       generalize Row3Ok r.txns[k]=OK3 at *
       generalize r.txns[k].1=x1 at *
       generalize r.txns[k].2.1=x2 at *
       generalize r.txns[k].2.2=x3 at *
       clear hc
       have BX:=Lib.hid (show ∀ W,Below wr.drew.heap.size wr.drew W→W.cell? ⟨w.heap.size,9,none⟩=some (.slice (some ⟨b,off,none⟩) r.txns.length tc)∧W.cell? ⟨b,off+k*3,none⟩=some (.int .i64 x1)∧W.cell? ⟨b,off+k*3+1,none⟩=some (.int .i64 x2)∧W.cell? ⟨b,off+k*3+2,none⟩=some (.int .i64 x3) from
        fun W h=>⟨(h.cell (p:=⟨w.heap.size,9,none⟩) PK.out.lt).trans c9,(h.cell (p:=⟨b,off+k*3,none⟩) hbl).trans d0,(h.cell (p:=⟨b,off+k*3+1,none⟩) hbl).trans d1,(h.cell (p:=⟨b,off+k*3+2,none⟩) hbl).trans d2⟩)
       by_cases hx1:1≤x1
       ·have hx1':decide (x1 < 1)=false:=by simp; omega
        have HX1:=Lib.hid hx1
        clear hx1
        generalize hyn:allNum [x1,x2,x3]=yn at *
        have HYN:=Lib.hid hyn
        clear hyn
        go_wp2_with fail
        clear c0 c6 c9 c10 d0 d1 d2
        refine' wp_region_conf 30 (.is _::.is _::.is _::.is _::.is _::.is _::.is _::.is _::.is _::.is _::.is _::.is _::.is _::.is _::.is _::.is _::.is _::.is _::.is _::.is _::.is _::.is _::.is _::.is _::.is _::.is _::.slice wr.heap.size 3 3 (intsV [x1,x2,x3])::.is _::.is _::.is _::[]) (by kernel_rfl) (by kernel_rfl) (by kernel_rfl) (by kernel_rfl) rfl ?main
        case main =>
         apply obs_step
         · rfl
         ·intro w4 hE4 hk
          clear hk hE4
          go_wp2
          refine post_eq ?_ (Below.refl _ _)
          simp only [Act.put,sA,sB,sC]
          try rfl
         ·simp only [Act.put,sA,sB,sC]
          rfl
         apply obs_step
         · rfl
         ·intro w4 hE4 hk
          obtain ⟨b9,f0,f1,f2⟩:=BX.out w4 hE4
          clear hk hE4
          go_wp2
          refine post_eq ?_ (Below.refl _ _)
          simp only [Act.put,sA,sB,sC]
          try rfl
         iterate 3
          ·simp only [Act.put,sA,sB,sC]
           rfl
          apply obs_step
          · rfl
          ·intro w4 hE4 hk
           clear hk hE4
           go_wp2
           refine post_eq ?_ (Below.refl _ _)
           simp only [Act.put,sA,sB,sC]
           try rfl
         ·simp only [Act.put,sA,sB,sC]
          rfl
         apply obs_step
         · rfl
         ·intro w4 hE4 hk
          obtain ⟨b9,f0,f1,f2⟩:=BX.out w4 hE4
          clear hk hE4
          go_wp2
          refine post_eq ?_ (Below.refl _ _)
          simp only [Act.put,sA,sB,sC]
          try rfl
         iterate 3
          ·simp only [Act.put,sA,sB,sC]
           rfl
          apply obs_step
          · rfl
          ·intro w4 hE4 hk
           clear hk hE4
           go_wp2
           refine post_eq ?_ (Below.refl _ _)
           simp only [Act.put,sA,sB,sC]
           try rfl
         ·simp only [Act.put,sA,sB,sC]
          rfl
         apply obs_step
         · rfl
         ·intro w4 hE4 hk
          obtain ⟨b9,f0,f1,f2⟩:=BX.out w4 hE4
          clear hk hE4
          go_wp2
          refine post_eq ?_ (Below.refl _ _)
          simp only [Act.put,sA,sB,sC]
          try rfl
         iterate 3
          ·simp only [Act.put,sA,sB,sC]
           rfl
          apply obs_step
          · rfl
          ·intro w4 hE4 hk
           clear hk hE4
           go_wp2
           refine post_eq ?_ (Below.refl _ _)
           simp only [Act.put,sA,sB,sC]
           try rfl
         iterate 2
          ·simp only [Act.put,sA,sB,sC]
           rfl
          apply obs_step
          · rfl
          ·intro w4 hE4 hk
           obtain ⟨b9,f0,f1,f2⟩:=BX.out w4 hE4
           clear hk hE4
           go_wp2
           refine post_eq ?_ (Below.refl _ _)
           simp only [Act.put,sA,sB,sC]
           try rfl
          ·simp only [Act.put,sA,sB,sC]
           rfl
          apply obs_step
          · rfl
          ·intro w4 hE4 hk
           clear hk hE4
           go_wp2
           refine post_eq ?_ (Below.refl _ _)
           simp only [Act.put,sA,sB,sC]
           try rfl
         iterate 2
          ·simp only [Act.put,sA,sB,sC]
           rfl
          apply obs_step
          · rfl
          ·intro w4 hE4 hk
           clear hk hE4
           go_wp2
           refine post_eq ?_ (Below.refl _ _)
           simp only [Act.put,sA,sB,sC]
           try rfl
         iterate 2
          ·simp only [Act.put,sA,sB,sC]
           rfl
          apply obs_step
          · rfl
          ·intro w4 hE4 hk
           obtain ⟨b9,f0,f1,f2⟩:=BX.out w4 hE4
           clear hk hE4
           go_wp2
           refine post_eq ?_ (Below.refl _ _)
           simp only [Act.put,sA,sB,sC]
           try rfl
          ·simp only [Act.put,sA,sB,sC]
           rfl
          apply obs_step
          · rfl
          ·intro w4 hE4 hk
           clear hk hE4
           go_wp2
           refine post_eq ?_ (Below.refl _ _)
           simp only [Act.put,sA,sB,sC]
           try rfl
         iterate 2
          ·simp only [Act.put,sA,sB,sC]
           rfl
          apply obs_step
          · rfl
          ·intro w4 hE4 hk
           clear hk hE4
           go_wp2
           refine post_eq ?_ (Below.refl _ _)
           simp only [Act.put,sA,sB,sC]
           try rfl
         ·simp only [Act.put,sA,sB,sC]
          rfl
         apply obs_step
         · rfl
         ·intro w4 hE4 hk
          obtain ⟨b9,f0,f1,f2⟩:=BX.out w4 hE4
          clear hk hE4
          go_wp2
          refine post_eq ?_ (Below.refl _ _)
          simp only [Act.put,sA,sB,sC]
          try rfl
         ·simp only [Act.put,sA,sB,sC]
          rfl
         apply obs_step_slice
         · rfl
         ·intro w4 hE4 hk
          clear hk
          go_wp2
          refine ⟨_,?_,⟨w4.heap.size,hE4.size,rfl,Blk.new _ _ _⟩,(Below.refl _ _).alloc (Nat.le_refl _) _⟩
          simp only [Act.put,sA,sB,sC]
          try rfl
         ·intro x
          simp only [Act.put,sA,sB,sC]
          rfl
         intro x
         apply obs_step
         · rfl
         ·intro w4 hE4 hk
          obtain ⟨g2,hg2,rfl,hb2⟩:=hk _ (List.mem_cons_self) (by kernel_rfl)
          clear hk hE4
          go_wp2_with fail
          refine (num_any (l:=[x1,x2,x3]) hb2 (by simp) yn HYN.out.symm).mono ?_
          rintro e w5 ⟨rfl,rfl⟩
          go_wp2
          refine post_eq ?_ (Below.refl _ _)
          simp only [Act.put,sA,sB,sC]
          try rfl
         iterate 2
          ·simp only [Act.put,sA,sB,sC]
           rfl
          apply obs_step
          · rfl
          ·intro w4 hE4 hk
           clear hk hE4
           go_wp2
           refine post_eq ?_ (Below.refl _ _)
           simp only [Act.put,sA,sB,sC]
           try rfl
         ·simp only [Act.put,sA,sB,sC]
          rfl
         refine obs_end fun w6 hE6 _=>?_
         have hE7:=((Below.refl wr.heap.size wr).drew).trans hE6
         have PW:=Lib.hid (PK.out.keep hE7 PK.out.lt)
         have LW:=Lib.hid (LK.out.keep hE7)
         have HBW:=Lib.hid (below2 HBK.out hE7)
         clear PK LK HBK BX hE6 hE7
         cases yn
         ·have hno:yes=false:=HNN.out fun h=>by have:=(HR3.out.1 h).2; simp at this
          subst hno
          clear HY6 HNN HKK HR3
          go_wp2
          go_ret
          exact ⟨rfl,HBW.out⟩
         ·have HN2:=Lib.hid (HKK.out (HR3.out.2 ⟨HX1.out,rfl⟩))
          clear HNN HKK HR3
          go_wp2
          go_roundw
          case rel=>exact ⟨k+1,by omega,by go_num,HN2.out,HBW.out,PW.out,LW.out⟩
          case measure=>simp [intOf]; omega
       ·have hx1':decide (x1 < 1)=true:=by simp; omega
        have hno:yes=false:=HNN.out fun h=>hx1 (HR3.out.1 h).1
        subst hno
        clear hx1 HY6 HNN HKK HR3
        go_wp2_with fail
        clear c0 c6 c9 c10 d0 d1 d2
        refine' wp_region_conf 30 (.is _::.is _::.is _::.is _::.is _::.is _::.is _::.is _::.is undef::.is undef::.is undef::.is undef::.is undef::.is undef::.is undef::.is undef::.is undef::.is undef::.is undef::.is undef::.is undef::.is undef::.is undef::.is undef::.is undef::.is undef::.is undef::.is undef::.is undef::.is _::[]) (by kernel_rfl) (by kernel_rfl) (by kernel_rfl) (by kernel_rfl) rfl ?main
        case main =>
         apply obs_step
         · rfl
         ·intro w4 hE4 hk
          clear hk hE4
          go_wp2
          refine post_eq ?_ (Below.refl _ _)
          simp only [Act.put,sA,sB,sC]
          try rfl
         ·simp only [Act.put,sA,sB,sC]
          rfl
         apply obs_step
         · rfl
         ·intro w4 hE4 hk
          obtain ⟨b9,f0,f1,f2⟩:=BX.out w4 hE4
          clear hk hE4
          go_wp2
          refine post_eq ?_ (Below.refl _ _)
          simp only [Act.put,sA,sB,sC]
          try rfl
         iterate 3
          ·simp only [Act.put,sA,sB,sC]
           rfl
          apply obs_step
          · rfl
          ·intro w4 hE4 hk
           clear hk hE4
           go_wp2
           refine post_eq ?_ (Below.refl _ _)
           simp only [Act.put,sA,sB,sC]
           try rfl
         ·simp only [Act.put,sA,sB,sC]
          rfl
         apply obs_step
         · rfl
         ·intro w4 hE4 hk
          obtain ⟨b9,f0,f1,f2⟩:=BX.out w4 hE4
          clear hk hE4
          go_wp2
          refine post_eq ?_ (Below.refl _ _)
          simp only [Act.put,sA,sB,sC]
          try rfl
         iterate 2
          ·simp only [Act.put,sA,sB,sC]
           rfl
          apply obs_step
          · rfl
          ·intro w4 hE4 hk
           clear hk hE4
           go_wp2
           refine post_eq ?_ (Below.refl _ _)
           simp only [Act.put,sA,sB,sC]
           try rfl
         iterate 21
          ·simp only [Act.put,sA,sB,sC]
           rfl
          apply obs_skip
          · rfl
         ·simp only [Act.put,sA,sB,sC]
          rfl
         apply obs_step
         · rfl
         ·intro w4 hE4 hk
          clear hk hE4
          go_wp2
          refine post_eq ?_ (Below.refl _ _)
          simp only [Act.put,sA,sB,sC]
          try rfl
         ·simp only [Act.put,sA,sB,sC]
          rfl
         refine obs_end fun w6 hE6 _=>?_
         have HBW:=Lib.hid (below2 HBK.out (((Below.refl wr.heap.size wr).drew).trans hE6))
         clear PK LK HBK BX hE6
         go_wp2
         go_ret
         exact ⟨rfl,HBW.out⟩
      ·have HT:=Lib.hid (show ∀ x ∈ r.txns,Row3Ok x from all_lt fun j hj _=>HNO.out j hj (by omega))
       clear HNO
       have HY7:=Lib.hid (show yes=true↔∀ x ∈ r.pages,Row2Ok x from ⟨fun h=>(HY6.out.1 h).2,fun h=>HY6.out.2 ⟨HT.out,h⟩⟩)
       clear HY6 HT
       go_wp2_with fail
       have HB9:=HBK
       have PP:=PK
       have L3:=LK
       clear HBK PK LK c0 c6 c9 c10 hk hlt2
       go_loopw [5] (fun vk wr=>∃ k:Nat,k≤r.pages.length∧vk=.int .i64 k∧(∀ j (hj:j < r.pages.length),j < k→Row2Ok r.pages[j])∧Below w.heap.size w wr∧Blk wr w.heap.size 46 (recCells r vt vp)∧Lists wr r vt vp) (fun vk _=>r.pages.length - (intOf vk).toNat)
       case atStart=>exact ⟨0,Nat.zero_le _,rfl,fun j _ h=>by omega,HB9.out,PP.out,L3.out⟩
       case round =>
        clear HB9 PP L3
        obtain ⟨k,hk,rfl,hno,hB,hP,hL⟩:=hrel
        have PK:=Lib.hid hP
        have HNO:=Lib.hid hno
        have LK:=Lib.hid hL
        have HBK:=Lib.hid hB
        have c0:=(PK.out.cell 0).trans E0
        have c6:=(PK.out.cell 6).trans E6
        have c9:=(PK.out.cell 9).trans E9
        have c10:=(PK.out.cell 10).trans E10
        rw [VT.out] at c9
        rw [VP.out] at c10
        clear hP hno hL hB
        by_cases hlt2:k < r.pages.length
        ·obtain ⟨b,off,cap,hv,_,_,hbl,hc⟩:=LK.out.p.at2 (fun e=>by rw [e] at hlt2; simp at hlt2)
         rw [VP.out] at hv
         simp only [Value.slice.injEq] at hv
         obtain ⟨rfl,_,rfl⟩:=hv
         obtain ⟨d0,d1⟩:=hc k hlt2
         have HR3:=Lib.hid (row2_num r.pages[k])
         have HKK:Hid (Row2Ok r.pages[k]→∀ j (hj:j < r.pages.length),j < k+1→Row2Ok r.pages[j]):=fun h j hj hjk=>by
          by_cases e:j=k
          · subst e; exact h
          · exact HNO.out j hj (by omega)
         have HNN:Hid (¬ Row2Ok r.pages[k]→yes=false):=fun h=>Bool.eq_false_iff.2 fun hh=>h (HY7.out.1 hh _ (List.getElem_mem hlt2))
         generalize Row2Ok r.pages[k]=OK3 at *
         generalize r.pages[k].1=x1 at *
         generalize r.pages[k].2=x2 at *
         clear hc
         have BX:=Lib.hid (show ∀ W,Below wr.drew.heap.size wr.drew W→W.cell? ⟨w.heap.size,10,none⟩=some (.slice (some ⟨b,off,none⟩) r.pages.length pc)∧W.cell? ⟨b,off+k*2,none⟩=some (.int .i64 x1)∧W.cell? ⟨b,off+k*2+1,none⟩=some (.int .i64 x2) from
          fun W h=>⟨(h.cell (p:=⟨w.heap.size,10,none⟩) PK.out.lt).trans c10,(h.cell (p:=⟨b,off+k*2,none⟩) hbl).trans d0,(h.cell (p:=⟨b,off+k*2+1,none⟩) hbl).trans d1⟩)
         by_cases hx1:0≤x1
         ·have hx1':decide (x1 < 0)=false:=by simp; omega
          by_cases hx2:x1≤7
          ·have hx2':decide (7 < x1)=false:=by simp; omega
           have HX1:=Lib.hid (And.intro hx1 hx2)
           clear hx1 hx2
           generalize hyn:allNum [x2]=yn at *
           have HYN:=Lib.hid hyn
           clear hyn
           go_wp2_with fail
           refine (num_any (l:=[x2]) (Blk.new wr _ _) (by simp) yn HYN.out.symm).mono ?_
           rintro e w6 ⟨rfl,rfl⟩
           have hE7:Below wr.heap.size wr (wr.alloc (.cells (intsV [x2]) 3)):=(Below.refl _ _).alloc (Nat.le_refl _) _
           have PW:=Lib.hid (PK.out.keep hE7 PK.out.lt)
           have LW:=Lib.hid (LK.out.keep hE7)
           have HBW:=Lib.hid (below2 HBK.out hE7)
           clear PK LK HBK BX hE7 c0 c6 c9 c10 d0 d1
           generalize (wr.alloc (.cells (intsV [x2]) 3))=w6 at *
           cases yn
           ·have hno:yes=false:=HNN.out fun h=>by have:=(HR3.out.1 h).2; simp at this
            subst hno
            clear HY7 HNN HKK HR3
            go_wp2
            go_ret
            exact ⟨rfl,HBW.out⟩
           ·have HN2:=Lib.hid (HKK.out (HR3.out.2 ⟨HX1.out,rfl⟩))
            clear HNN HKK HR3
            go_wp2
            go_roundw
            case rel=>exact ⟨k+1,by omega,by go_num,HN2.out,HBW.out,PW.out,LW.out⟩
            case measure=>simp [intOf]; omega
          ·have hx2':decide (7 < x1)=true:=by simp; omega
           have hno:yes=false:=HNN.out fun h=>hx2 (HR3.out.1 h).1.2
           subst hno
           clear hx1 hx2 HY7 HNN HKK HR3
           go_wp2
           go_ret
           exact ⟨rfl,HBK.out⟩
         ·have hx1':decide (x1 < 0)=true:=by simp; omega
          have hno:yes=false:=HNN.out fun h=>hx1 (HR3.out.1 h).1.1
          subst hno
          clear hx1 HY7 HNN HKK HR3
          go_wp2
          go_ret
          exact ⟨rfl,HBK.out⟩
        ·have hyes:yes=true:=HY7.out.2 (all_lt fun j hj _=>HNO.out j hj (by omega))
         subst hyes
         clear HY7 HNO PK LK
         go_wp2
         go_ret
         exact ⟨rfl,HBK.out⟩
    ·have H5:=Lib.hid h5
     clear h5
     go_wp2_with (first
      | (refine wpList_load_rowG rfl 46 _ rfl w.heap.size rfl 46 _ (0,0) _ P2 Tryz.underlying46 rfl (by kernel_rfl) ?_)
      | (refine wpList_load_rowG rfl 46 _ rfl (w.heap.size+1) rfl 46 _ (0,0) _ Q2 Tryz.underlying46 rfl (by kernel_rfl) ?_))
     refine (refSame_any (b:=Rc.tab r.beg r.txns r.pages) ⟨vt,vp,rfl,L2.out⟩ ⟨vt,vp,(by rw [VT.out,VP.out]; try rfl),⟨L2.out.t,L2.out.p⟩⟩ false (by rw [decide_eq_false H5.out])).mono ?_
     rintro e w9 ⟨rfl,hb9⟩
     have HB9:=Lib.hid (below2 HB2.out hb9)
     have hno:yes=false:=Bool.eq_false_iff.2 fun h=>H5.out (HY.out.1 h).1.2.2.2
     subst hno
     clear HY
     clear hb9 P2 Q2 L2 HB2
     go_wp2
     go_ret
     exact ⟨rfl,HB9.out⟩
   ·have h7':decide (8 < (r.pages.length:Int))=true:=by simp; omega
    have hno:yes=false:=Bool.eq_false_iff.2 fun h=>h7 (HY.out.1 h).1.2.2.1
    subst hno
    clear HY
    go_wp2
    go_ret
    exact ⟨rfl,HB2.out⟩
  ·have h6':decide (4 < (r.txns.length:Int))=true:=by simp; omega
   have hno:yes=false:=Bool.eq_false_iff.2 fun h=>h6 (HY.out.1 h).1.2.1
   subst hno
   clear HY
   go_wp2
   go_ret
   exact ⟨rfl,HB2.out⟩
 ·go_wp2_with fail
  refine (num_any (l:=[r.beg]) (Blk.new W1 _ _) (by simp) false (by simpa using h2)).mono ?_
  rintro e w2 ⟨rfl,rfl⟩
  have hno:yes=false:=Bool.eq_false_iff.2 fun h=>h2 (HY.out.1 h).1.1
  subst hno
  clear HY
  clear hb2 P2 Q2 PP QQ LL HB L2
  go_wp2
  go_ret
  exact ⟨rfl,HB2.out⟩
end Go.Proofs.YthkbcfhjmnpggaaGreat
