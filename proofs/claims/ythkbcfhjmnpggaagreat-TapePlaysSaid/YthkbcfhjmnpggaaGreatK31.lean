/- Texts that belong together, joined: RinK12. -/
import Derived.Test.YthkbcfhjmnpggaaGreatK29
namespace Go.Proofs.YthkbcfhjmnpggaaGreat
open Go.RowKit
set_option linter.unusedSimpArgs false
set_option maxRecDepth 100000 in
set_option maxHeartbeats 8000000 in
theorem refRead_1 (s:ByteArray) (k:Nat) (w:World) (hs:s.size≤maxLen) (h:k≤s.size) (hk:(rin0 s k).small=1) :
 Calls Tryz.prog 87 #[.string s,.int .i64 k] w (Reads3N w (readR s k)):=by
 have hrec:Rin.rec0 (rin0 s k)=({ Rc.nil with kind:=1,txn:=((rin0 s k).rest 1).four,prev:=(((rin0 s k).rest 1).rest 4).four,page:=((((rin0 s k).rest 1).rest 4).rest 4).small,off:=(((((rin0 s k).rest 1).rest 4).rest 4).rest 1).small,before:=⟨((((((((rin0 s k).rest 1).rest 4).rest 4).rest 1).rest 1).rest 1).take ((((((rin0 s k).rest 1).rest 4).rest 4).rest 1).rest 1).small.toNat).toArray⟩,after:=⟨(((((((((rin0 s k).rest 1).rest 4).rest 4).rest 1).rest 1).rest 1).rest ((((((rin0 s k).rest 1).rest 4).rest 4).rest 1).rest 1).small.toNat).take ((((((rin0 s k).rest 1).rest 4).rest 4).rest 1).rest 1).small.toNat).toArray⟩ },((((((((rin0 s k).rest 1).rest 4).rest 4).rest 1).rest 1).rest 1).rest ((((((rin0 s k).rest 1).rest 4).rest 4).rest 1).rest 1).small.toNat).rest ((((((rin0 s k).rest 1).rest 4).rest 4).rest 1).rest 1).small.toNat):=by
  unfold Rin.rec0
  rw [hk]
  rfl
 have hle:(rin0 s k).s.length≤maxLen:=by show (s.data.toList.drop k).length≤_; rw [List.length_drop,size_bytes]; omega
 have hex:(s.extract k s.size)=⟨(s.data.toList.drop k).toArray⟩:=bytes_drop s.data.toList k s.size rfl
 have HREC:=Lib.hid hrec
 have HLE:=Lib.hid hle
 have HEX:=Lib.hid hex
 have HK:=Lib.hid hk
 have HH:=Lib.hid h
 have hkr:(k:Int)≤(s.size:Int):=by omega
 have hk0:decide ((k:Int) < 0)=false:=by simp
 clear hrec hle hex hk
 unfold maxLen at hs
 go_enter Tryz.func87,Tryz.ntmps87
 go_wp2_with fail
 rw [HEX.out]
 change Calls _ _ _ ((w.alloc (.cells nilRow 46)).alloc (.cells (inV (rin0 s k)) 176)) _
 have hb0:Blk ((w.alloc (.cells nilRow 46)).alloc (.cells (inV (rin0 s k)) 176)) (w.heap.size+1) 176 (inV (rin0 s k)):=by
  have:=Blk.new (w.alloc (.cells nilRow 46)) 176 (inV (rin0 s k))
  rwa [World.size_alloc] at this
 refine (inSmall_any (x:=rin0 s k) hb0 HLE.out).mono ?_
 rintro e w1 ⟨rfl,hb,ho⟩
 clear hb0
 have S1:=RS.start (x:=rin0 s k) HLE.out rfl hb ho 1
 have hn:=Blk.new w1 46 nilRow
 rw [HK.out]
 go_upto_region 5 with (refine wpList_store_row rfl 46 _ _ rfl w1.heap.size _ rfl rfl 46 _ hn (by kernel_rfl) rfl (by simp [Value.oneCell']) ?_)
 change Code.wp _ _ _ _ ((w1.alloc (.cells nilRow 46)).setRow w1.heap.size (recCells { Rc.nil with kind:=1 } (.slice none 0 0) (.slice none 0 0)))
 clear hb ho hn
 have hne:w1.heap.size≠w.heap.size+1:=S1.xr
 generalize hW:((w1.alloc (.cells nilRow 46)).setRow w1.heap.size (recCells { Rc.nil with kind:=1 } (.slice none 0 0) (.slice none 0 0)))=w2 at *
 clear hW
 generalize w1.heap.size=gr at *
 have c0:=S1.row.cell 0
 simp [recCells] at c0
 generalize hx1:(rin0 s k).rest 1=x1 at *
 go_wp2_with fail
 refine (inFour_any S1.inn S1.le).mono ?_
 rintro e w3 ⟨rfl,hb,ho⟩
 have T3:=S1.took hb ho
 clear hb ho S1
 have cc:=T3.row.cell 1
 simp [recCells,Rc.nil] at cc
 have zz:=T3.row.frozen 1
 generalize x1.four=a at *
 generalize x1.rest 4=x2 at *
 have S3:=T3.set (r':={ Rc.nil with kind:=1,txn:=a }) 1 (.int .i64 a) rfl rfl rfl
 clear T3
 go_wp2_with fail
 refine (inFour_any S3.inn S3.le).mono ?_
 rintro e w4 ⟨rfl,hb,ho⟩
 have T4:=S3.took hb ho
 clear hb ho S3
 clear cc zz
 have cc:=T4.row.cell 4
 simp [recCells,Rc.nil] at cc
 have zz:=T4.row.frozen 4
 generalize x2.four=b at *
 generalize x2.rest 4=x3 at *
 have S4:=T4.set (r':={ Rc.nil with kind:=1,txn:=a,prev:=b }) 4 (.int .i64 b) rfl rfl rfl
 clear T4
 have c0:=S4.row.cell 0
 simp [recCells] at c0
 go_wp2_with fail
 refine (inSmall_any S4.inn S4.le).mono ?_
 rintro e w5 ⟨rfl,hb,ho⟩
 have T5:=S4.took hb ho
 clear hb ho S4
 clear cc zz
 have cc:=T5.row.cell 2
 simp [recCells,Rc.nil] at cc
 have zz:=T5.row.frozen 2
 generalize x3.small=pg at *
 generalize x3.rest 1=x4 at *
 have S5:=T5.set (r':={ Rc.nil with kind:=1,txn:=a,prev:=b,page:=pg }) 2 (.int .i64 pg) rfl rfl rfl
 clear T5
 go_wp2_with fail
 refine (inSmall_any S5.inn S5.le).mono ?_
 rintro e w6 ⟨rfl,hb,ho⟩
 have T6:=S5.took hb ho
 clear hb ho S5
 clear cc zz
 have cc:=T6.row.cell 3
 simp [recCells,Rc.nil] at cc
 have zz:=T6.row.frozen 3
 generalize x4.small=of at *
 generalize x4.rest 1=x5 at *
 have S6:=T6.set (r':={ Rc.nil with kind:=1,txn:=a,prev:=b,page:=pg,off:=of }) 3 (.int .i64 of) rfl rfl rfl
 clear T6
 go_wp2_with fail
 refine (inSmall_any S6.inn S6.le).mono ?_
 rintro e w7 ⟨rfl,hb,ho⟩
 have T7:=S6.took hb ho
 clear hb ho S6
 clear cc zz
 obtain ⟨m,hm⟩:∃ m:Nat,m=x5.small.toNat:=⟨_,rfl⟩
 have hmi:x5.small=(m:Int):=by have:0≤x5.small:=Int.natCast_nonneg _; omega
 have hm2:m≤255:=by have:x5.small < 256:=(by unfold Rin.small; have:=((x5.take 1).getD 0 0).toNat_lt; omega); omega
 rw [← hm] at HREC
 rw [hmi]
 clear hm hmi
 generalize x5.rest 1=x6 at *
 have c0:=T7.row.cell 0
 simp [recCells] at c0
 go_wp2_with fail
 refine (inTake_any T7.inn T7.le m (by omega)).mono ?_
 rintro e w8 ⟨rfl,hb,ho⟩
 have T8:=T7.took hb ho
 clear hb ho T7
 have hsb:(⟨(x6.take m).toArray⟩:ByteArray).size=m:=by simp [ByteArray.size,Rin.take_len]
 have cc:=T8.row.cell 7
 simp [recCells,Rc.nil] at cc
 have zz:=T8.row.frozen 7
 generalize (⟨(x6.take m).toArray⟩:ByteArray)=sb at *
 generalize x6.rest m=x7 at *
 have S8:=T8.set (r':={ Rc.nil with kind:=1,txn:=a,prev:=b,page:=pg,off:=of,before:=sb }) 7 (.string sb) rfl rfl rfl
 clear T8 c0
 go_wp2_with fail
 refine (inTake_any S8.inn S8.le m (by omega)).mono ?_
 rintro e w9 ⟨rfl,hb,ho⟩
 have T9:=S8.took hb ho
 clear hb ho S8
 clear cc zz
 have hsa:(⟨(x7.take m).toArray⟩:ByteArray).size=m:=by simp [ByteArray.size,Rin.take_len]
 have cc:=T9.row.cell 8
 simp [recCells,Rc.nil] at cc
 have zz:=T9.row.frozen 8
 generalize (⟨(x7.take m).toArray⟩:ByteArray)=sa at *
 generalize x7.rest m=x8 at *
 have S9:=T9.set (r':={ Rc.nil with kind:=1,txn:=a,prev:=b,page:=pg,off:=of,before:=sb,after:=sa }) 8 (.string sa) rfl rfl rfl
 clear T9
 go_upto_region 38 with (fail)
 clear cc zz
 generalize w9.setCell ⟨gr,8,none⟩ (.string sa)=v9 at *
 have hsz4:(Rc.mk 1 a pg of b 0 0 sb sa [] []).before.size≤maxLen∧(Rc.mk 1 a pg of b 0 0 sb sa [] []).after.size≤maxLen:=⟨by show sb.size≤maxLen; unfold maxLen; omega,by show sa.size≤maxLen; unfold maxLen; omega⟩
 have i1:=S9.inn.cell 1
 simp [inV] at i1
 have hnr:=S9.res
 by_cases hbad:x8.bad=true
 ·have hR:=readR_no HH.out HREC.out (.inl hbad)
  have HR:=Lib.hid hR
  have HB:=Lib.hid (below_setRow S9.below (Nat.le_refl _) nilRow)
  rw [hbad] at i1
  clear hbad hR S9
  go_wp2_with (refine wpList_store_row rfl 46 _ _ rfl w.heap.size _ rfl rfl 46 _ hnr (by kernel_rfl) rfl (by simp [recCells,Value.oneCell']) ?_)
  refine bodyPost_ret (results_tt rfl _ _ w.heap.size 46 nilRow _ rfl (hnr.setRow _) Tryz.underlying46 rfl (by kernel_rfl)) rfl ?_
  rw [HR.out]
  exact ⟨_,_,rfl,Lists.nil _ _ rfl rfl,New.nil _,New.nil _,HB.out⟩
 ·have hbf:x8.bad=false:=by simpa using hbad
  rw [hbf] at i1
  have N3:=S9.row
  have IR:=Lib.hid S9.isRec
  by_cases hm:May (Rc.mk 1 a pg of b 0 0 sb sa [] [])
  ·have HR:=Lib.hid (readR_yes HH.out HREC.out hbf hm)
   have HM:=Lib.hid (refMay_any IR.out hsz4 true ⟨fun _=>hm,fun _=>rfl⟩)
   clear hbad hbf hm
   go_wp2_with (refine wpList_load_rowG rfl 46 _ rfl gr rfl 46 _ (0,0) _ N3 Tryz.underlying46 rfl (by kernel_rfl) ?_)
   refine HM.out.mono ?_
   rintro e w6 ⟨rfl,hb6⟩
   have S6:=S9.more hb6
   have hyl:=rin0_le HREC.out
   have hy2:(⟨x8.s.toArray⟩:ByteArray).size=x8.s.length:=by simp [ByteArray.size]
   have hxR:=S6.xR
   have FACT:Hid (∀ W,Only (· = w.heap.size) w6.drew W→Blk W gr 46 (recCells (Rc.mk 1 a pg of b 0 0 sb sa [] []) (.slice none 0 0) (.slice none 0 0))∧Blk W (w.heap.size+1) 176 (inV x8)) :=
    fun W hW=>⟨hW.blk S6.drew.row S6.ne,hW.blk S6.drew.inn S6.xR.symm⟩
   have OUT:Hid (∀ W,Only (· = w.heap.size) w6.drew W→Lists W (Rc.mk 1 a pg of b 0 0 sb sa [] []) (.slice none 0 0) (.slice none 0 0)∧Below w.heap.size w W) :=
    fun W hW=>⟨⟨.ofOwn (own_only S6.drew.t hW fun b hv e=>own_blk S6.drew.t S6.drew.res (by decide) (by rw [hv]; congr 1)),.ofOwn (own_only S6.drew.p hW fun b hv e=>own_blk S6.drew.p S6.drew.res (by decide) (by rw [hv]; congr 1))⟩,
     hW.below S6.drew.below S6.drew.below.size fun b e=>by omega⟩
   have NEW:Hid (New w (.slice none 0 0)∧New w (.slice none 0 0)):=⟨.own S6.t (Nat.le_refl _),.own S6.p (Nat.le_refl _)⟩
   have RES:=Lib.hid S6.drew.res
   clear S9 N3 HM hb6 IR i1 hnr
   go_wp2_with fail
   refine' wp_region_store (S:=(· = w.heap.size)) 12 (.is _::.is _::.is _::.is _::.is _::.is _::.is _::.is _::.is _::.wrote w.heap.size 46 (recCells (Rc.mk 1 a pg of b 0 0 sb sa [] []) (.slice none 0 0) (.slice none 0 0))::.is _::.is _::[]) (by kernel_rfl) (by kernel_rfl) (by kernel_rfl) (by kernel_rfl) rfl (by rfl) ?main
   case main =>
    apply obsS_step
    · rfl
    ·intro w4 hE4 hk
     have f:=(FACT.out w4 hE4).1
     clear hk hE4
     go_wp2_with (refine wpList_load_row rfl 46 _ rfl gr rfl 46 _ (0,0) _ f Tryz.underlying46 rfl (by kernel_rfl) ?_)
     refine postS_eq ?_ (Below.refl _ _)
     simp only [Act.put,sA,sB,sC]
     try rfl
    iterate 5
     ·simp only [Act.put,sA,sB,sC]
      rfl
     apply obsS_step
     · rfl
     ·intro w4 hE4 hk
      clear hk hE4
      go_wp2
      refine postS_eq ?_ (Below.refl _ _)
      simp only [Act.put,sA,sB,sC]
      try rfl
    ·simp only [Act.put,sA,sB,sC]
     rfl
    apply obsS_step
    · rfl
    ·intro w4 hE4 hk
     have f:=(FACT.out w4 hE4).2.cell 0
     simp [inV] at f
     clear hk hE4
     go_wp2
     refine postS_eq ?_ (Below.refl _ _)
     simp only [Act.put,sA,sB,sC]
     try rfl
    iterate 2
     ·simp only [Act.put,sA,sB,sC]
      rfl
     apply obsS_step
     · rfl
     ·intro w4 hE4 hk
      clear hk hE4
      go_wp2
      refine postS_eq ?_ (Below.refl _ _)
      simp only [Act.put,sA,sB,sC]
      try rfl
    ·simp only [Act.put,sA,sB,sC]
     rfl
    apply obsS_wrote
    · rfl
    ·intro w4 hE4 hk
     have f:=RES.out.keep hE4 RES.out.lt
     have g1:=f.setRow (recCells (Rc.mk 1 a pg of b 0 0 sb sa [] []) (.slice none 0 0) (.slice none 0 0))
     have g2:Only (· = w.heap.size) w4 (w4.setRow w.heap.size (recCells (Rc.mk 1 a pg of b 0 0 sb sa [] []) (.slice none 0 0) (.slice none 0 0))):=(Only.refl (· = w.heap.size) w4).setRow (g:=w.heap.size) (.inl rfl) _
     clear hk hE4
     go_wp2_with (refine wpList_store_row rfl 46 _ _ rfl w.heap.size _ rfl rfl 46 _ f (by kernel_rfl) rfl (by simp [recCells,Value.oneCell']) ?_)
     exact postS_wrote rfl g1 g2
    ·intro x
     simp only [Act.put,sA,sB,sC]
     try rfl
    intro x
    iterate 2
     apply obsS_step
     · rfl
     ·intro w4 hE4 hk
      clear hk hE4
      go_wp2
      refine postS_eq ?_ (Below.refl _ _)
      simp only [Act.put,sA,sB,sC]
      try rfl
     ·simp only [Act.put,sA,sB,sC]
      rfl
    refine obsS_end fun w7 hE hkn=>?_
    have hg:Blk w7 w.heap.size 46 (recCells (Rc.mk 1 a pg of b 0 0 sb sa [] []) (.slice none 0 0) (.slice none 0 0)):=hkn _ (List.mem_cons_self)
    obtain ⟨hl,hB⟩:=OUT.out w7 hE
    have HL:=Lib.hid hl
    have HB:=Lib.hid hB
    clear hl hB hE hkn
    change wpList _ _ _ _ _ _
    go_wp2
    refine bodyPost_ret (results_tt rfl _ _ w.heap.size 46 (recCells (Rc.mk 1 a pg of b 0 0 sb sa [] []) (.slice none 0 0) (.slice none 0 0)) _ rfl hg Tryz.underlying46 rfl (by kernel_rfl)) rfl ?_
    rw [HR.out]
    exact ⟨_,_,rfl,HL.out,NEW.out.1,NEW.out.2,HB.out⟩
  ·have HR:=Lib.hid (readR_no HH.out HREC.out (.inr hm))
   have HM:=Lib.hid (refMay_any IR.out hsz4 false ⟨fun h=>(by cases h),fun h=>absurd h hm⟩)
   clear hbad hbf hm
   go_wp2_with (refine wpList_load_rowG rfl 46 _ rfl gr rfl 46 _ (0,0) _ N3 Tryz.underlying46 rfl (by kernel_rfl) ?_)
   refine HM.out.mono ?_
   rintro e w6 ⟨rfl,hb6⟩
   have S6:=S9.more hb6
   have hnr:=S6.res
   have HB:=Lib.hid (below_setRow S6.below (Nat.le_refl _) nilRow)
   clear S9 N3 HM hb6 IR i1 S6
   go_wp2_with (refine wpList_store_row rfl 46 _ _ rfl w.heap.size _ rfl rfl 46 _ hnr (by kernel_rfl) rfl (by simp [recCells,Value.oneCell']) ?_)
   refine bodyPost_ret (results_tt rfl _ _ w.heap.size 46 nilRow _ rfl (hnr.setRow _) Tryz.underlying46 rfl (by kernel_rfl)) rfl ?_
   rw [HR.out]
   exact ⟨_,_,rfl,Lists.nil _ _ rfl rfl,New.nil _,New.nil _,HB.out⟩
set_option maxRecDepth 100000 in
set_option maxHeartbeats 8000000 in
theorem refRead_2 (s:ByteArray) (k:Nat) (w:World) (hs:s.size≤maxLen) (h:k≤s.size) (hk:(rin0 s k).small=2) :
 Calls Tryz.prog 87 #[.string s,.int .i64 k] w (Reads3N w (readR s k)):=by
 have hrec:Rin.rec0 (rin0 s k)=({ Rc.nil with kind:=2,txn:=((rin0 s k).rest 1).four,prev:=(((rin0 s k).rest 1).rest 4).four,next:=((((rin0 s k).rest 1).rest 4).rest 4).four,page:=(((((rin0 s k).rest 1).rest 4).rest 4).rest 4).small,off:=((((((rin0 s k).rest 1).rest 4).rest 4).rest 4).rest 1).small,after:=⟨(((((((((rin0 s k).rest 1).rest 4).rest 4).rest 4).rest 1).rest 1).rest 1).take (((((((rin0 s k).rest 1).rest 4).rest 4).rest 4).rest 1).rest 1).small.toNat).toArray⟩ },((((((((rin0 s k).rest 1).rest 4).rest 4).rest 4).rest 1).rest 1).rest 1).rest (((((((rin0 s k).rest 1).rest 4).rest 4).rest 4).rest 1).rest 1).small.toNat):=by
  unfold Rin.rec0
  rw [hk]
  rfl
 have hle:(rin0 s k).s.length≤maxLen:=by show (s.data.toList.drop k).length≤_; rw [List.length_drop,size_bytes]; omega
 have hex:(s.extract k s.size)=⟨(s.data.toList.drop k).toArray⟩:=bytes_drop s.data.toList k s.size rfl
 have HREC:=Lib.hid hrec
 have HLE:=Lib.hid hle
 have HEX:=Lib.hid hex
 have HK:=Lib.hid hk
 have HH:=Lib.hid h
 have hkr:(k:Int)≤(s.size:Int):=by omega
 have hk0:decide ((k:Int) < 0)=false:=by simp
 clear hrec hle hex hk
 unfold maxLen at hs
 go_enter Tryz.func87,Tryz.ntmps87
 go_wp2_with fail
 rw [HEX.out]
 change Calls _ _ _ ((w.alloc (.cells nilRow 46)).alloc (.cells (inV (rin0 s k)) 176)) _
 have hb0:Blk ((w.alloc (.cells nilRow 46)).alloc (.cells (inV (rin0 s k)) 176)) (w.heap.size+1) 176 (inV (rin0 s k)):=by
  have:=Blk.new (w.alloc (.cells nilRow 46)) 176 (inV (rin0 s k))
  rwa [World.size_alloc] at this
 refine (inSmall_any (x:=rin0 s k) hb0 HLE.out).mono ?_
 rintro e w1 ⟨rfl,hb,ho⟩
 clear hb0
 have S1:=RS.start (x:=rin0 s k) HLE.out rfl hb ho 2
 have hn:=Blk.new w1 46 nilRow
 rw [HK.out]
 go_upto_region 5 with (refine wpList_store_row rfl 46 _ _ rfl w1.heap.size _ rfl rfl 46 _ hn (by kernel_rfl) rfl (by simp [Value.oneCell']) ?_)
 change Code.wp _ _ _ _ ((w1.alloc (.cells nilRow 46)).setRow w1.heap.size (recCells { Rc.nil with kind:=2 } (.slice none 0 0) (.slice none 0 0)))
 clear hb ho hn
 have hne:w1.heap.size≠w.heap.size+1:=S1.xr
 generalize hW:((w1.alloc (.cells nilRow 46)).setRow w1.heap.size (recCells { Rc.nil with kind:=2 } (.slice none 0 0) (.slice none 0 0)))=w2 at *
 clear hW
 generalize w1.heap.size=gr at *
 have c0:=S1.row.cell 0
 simp [recCells] at c0
 generalize hx1:(rin0 s k).rest 1=x1 at *
 go_wp2_with fail
 refine (inFour_any S1.inn S1.le).mono ?_
 rintro e w3 ⟨rfl,hb,ho⟩
 have T3:=S1.took hb ho
 clear hb ho S1
 have cc:=T3.row.cell 1
 simp [recCells,Rc.nil] at cc
 have zz:=T3.row.frozen 1
 generalize x1.four=a at *
 generalize x1.rest 4=x2 at *
 have S3:=T3.set (r':={ Rc.nil with kind:=2,txn:=a }) 1 (.int .i64 a) rfl rfl rfl
 clear T3
 go_wp2_with fail
 refine (inFour_any S3.inn S3.le).mono ?_
 rintro e w4 ⟨rfl,hb,ho⟩
 have T4:=S3.took hb ho
 clear hb ho S3
 clear cc zz
 have cc:=T4.row.cell 4
 simp [recCells,Rc.nil] at cc
 have zz:=T4.row.frozen 4
 generalize x2.four=b at *
 generalize x2.rest 4=x3 at *
 have S4:=T4.set (r':={ Rc.nil with kind:=2,txn:=a,prev:=b }) 4 (.int .i64 b) rfl rfl rfl
 clear T4
 have c0:=S4.row.cell 0
 simp [recCells] at c0
 go_wp2_with fail
 refine (inFour_any S4.inn S4.le).mono ?_
 rintro e w5 ⟨rfl,hb,ho⟩
 have T5:=S4.took hb ho
 clear hb ho S4
 clear cc zz
 have cc:=T5.row.cell 5
 simp [recCells,Rc.nil] at cc
 have zz:=T5.row.frozen 5
 generalize x3.four=c at *
 generalize x3.rest 4=x4 at *
 have S5:=T5.set (r':={ Rc.nil with kind:=2,txn:=a,prev:=b,next:=c }) 5 (.int .i64 c) rfl rfl rfl
 clear T5
 have c0:=S5.row.cell 0
 simp [recCells] at c0
 go_wp2_with fail
 refine (inSmall_any S5.inn S5.le).mono ?_
 rintro e w6 ⟨rfl,hb,ho⟩
 have T6:=S5.took hb ho
 clear hb ho S5
 clear cc zz
 have cc:=T6.row.cell 2
 simp [recCells,Rc.nil] at cc
 have zz:=T6.row.frozen 2
 generalize x4.small=pg at *
 generalize x4.rest 1=x5 at *
 have S6:=T6.set (r':={ Rc.nil with kind:=2,txn:=a,prev:=b,next:=c,page:=pg }) 2 (.int .i64 pg) rfl rfl rfl
 clear T6
 go_wp2_with fail
 refine (inSmall_any S6.inn S6.le).mono ?_
 rintro e w7 ⟨rfl,hb,ho⟩
 have T7:=S6.took hb ho
 clear hb ho S6
 clear cc zz
 have cc:=T7.row.cell 3
 simp [recCells,Rc.nil] at cc
 have zz:=T7.row.frozen 3
 generalize x5.small=of at *
 generalize x5.rest 1=x6 at *
 have S7:=T7.set (r':={ Rc.nil with kind:=2,txn:=a,prev:=b,next:=c,page:=pg,off:=of }) 3 (.int .i64 of) rfl rfl rfl
 clear T7
 go_wp2_with fail
 refine (inSmall_any S7.inn S7.le).mono ?_
 rintro e w8 ⟨rfl,hb,ho⟩
 have T8:=S7.took hb ho
 clear hb ho S7
 clear cc zz
 obtain ⟨m,hm⟩:∃ m:Nat,m=x6.small.toNat:=⟨_,rfl⟩
 have hmi:x6.small=(m:Int):=by have:0≤x6.small:=Int.natCast_nonneg _; omega
 have hm2:m≤255:=by have:x6.small < 256:=(by unfold Rin.small; have:=((x6.take 1).getD 0 0).toNat_lt; omega); omega
 rw [← hm] at HREC
 rw [hmi]
 clear hm hmi
 generalize x6.rest 1=x7 at *
 have c0:=T8.row.cell 0
 simp [recCells] at c0
 -- no Before
 go_wp2_with fail
 refine (inTake_any T8.inn T8.le m (by omega)).mono ?_
 rintro e w9 ⟨rfl,hb,ho⟩
 have T9:=T8.took hb ho
 clear hb ho T8
 have hsa:(⟨(x7.take m).toArray⟩:ByteArray).size=m:=by simp [ByteArray.size,Rin.take_len]
 have cc:=T9.row.cell 8
 simp [recCells,Rc.nil] at cc
 have zz:=T9.row.frozen 8
 generalize (⟨(x7.take m).toArray⟩:ByteArray)=sa at *
 generalize x7.rest m=x8 at *
 have S9:=T9.set (r':={ Rc.nil with kind:=2,txn:=a,prev:=b,next:=c,page:=pg,off:=of,after:=sa }) 8 (.string sa) rfl rfl rfl
 clear T9
 go_upto_region 38 with (fail)
 clear cc zz
 generalize w9.setCell ⟨gr,8,none⟩ (.string sa)=v9 at *
 have hsz4:(Rc.mk 2 a pg of b c 0 ⟨#[]⟩ sa [] []).before.size≤maxLen∧(Rc.mk 2 a pg of b c 0 ⟨#[]⟩ sa [] []).after.size≤maxLen:=⟨Nat.zero_le _,by show sa.size≤maxLen; unfold maxLen; omega⟩
 have i1:=S9.inn.cell 1
 simp [inV] at i1
 have hnr:=S9.res
 by_cases hbad:x8.bad=true
 ·have hR:=readR_no HH.out HREC.out (.inl hbad)
  have HR:=Lib.hid hR
  have HB:=Lib.hid (below_setRow S9.below (Nat.le_refl _) nilRow)
  rw [hbad] at i1
  clear hbad hR S9
  go_wp2_with (refine wpList_store_row rfl 46 _ _ rfl w.heap.size _ rfl rfl 46 _ hnr (by kernel_rfl) rfl (by simp [recCells,Value.oneCell']) ?_)
  refine bodyPost_ret (results_tt rfl _ _ w.heap.size 46 nilRow _ rfl (hnr.setRow _) Tryz.underlying46 rfl (by kernel_rfl)) rfl ?_
  rw [HR.out]
  exact ⟨_,_,rfl,Lists.nil _ _ rfl rfl,New.nil _,New.nil _,HB.out⟩
 ·have hbf:x8.bad=false:=by simpa using hbad
  rw [hbf] at i1
  have N3:=S9.row
  have IR:=Lib.hid S9.isRec
  by_cases hm:May (Rc.mk 2 a pg of b c 0 ⟨#[]⟩ sa [] [])
  ·have HR:=Lib.hid (readR_yes HH.out HREC.out hbf hm)
   have HM:=Lib.hid (refMay_any IR.out hsz4 true ⟨fun _=>hm,fun _=>rfl⟩)
   clear hbad hbf hm
   go_wp2_with (refine wpList_load_rowG rfl 46 _ rfl gr rfl 46 _ (0,0) _ N3 Tryz.underlying46 rfl (by kernel_rfl) ?_)
   refine HM.out.mono ?_
   rintro e w6 ⟨rfl,hb6⟩
   have S6:=S9.more hb6
   have hyl:=rin0_le HREC.out
   have hy2:(⟨x8.s.toArray⟩:ByteArray).size=x8.s.length:=by simp [ByteArray.size]
   have hxR:=S6.xR
   have FACT:Hid (∀ W,Only (· = w.heap.size) w6.drew W→Blk W gr 46 (recCells (Rc.mk 2 a pg of b c 0 ⟨#[]⟩ sa [] []) (.slice none 0 0) (.slice none 0 0))∧Blk W (w.heap.size+1) 176 (inV x8)) :=
    fun W hW=>⟨hW.blk S6.drew.row S6.ne,hW.blk S6.drew.inn S6.xR.symm⟩
   have OUT:Hid (∀ W,Only (· = w.heap.size) w6.drew W→Lists W (Rc.mk 2 a pg of b c 0 ⟨#[]⟩ sa [] []) (.slice none 0 0) (.slice none 0 0)∧Below w.heap.size w W) :=
    fun W hW=>⟨⟨.ofOwn (own_only S6.drew.t hW fun b hv e=>own_blk S6.drew.t S6.drew.res (by decide) (by rw [hv]; congr 1)),.ofOwn (own_only S6.drew.p hW fun b hv e=>own_blk S6.drew.p S6.drew.res (by decide) (by rw [hv]; congr 1))⟩,
     hW.below S6.drew.below S6.drew.below.size fun b e=>by omega⟩
   have NEW:Hid (New w (.slice none 0 0)∧New w (.slice none 0 0)):=⟨.own S6.t (Nat.le_refl _),.own S6.p (Nat.le_refl _)⟩
   have RES:=Lib.hid S6.drew.res
   clear S9 N3 HM hb6 IR i1 hnr
   go_wp2_with fail
   refine' wp_region_store (S:=(· = w.heap.size)) 12 (.is _::.is _::.is _::.is _::.is _::.is _::.is _::.is _::.is _::.wrote w.heap.size 46 (recCells (Rc.mk 2 a pg of b c 0 ⟨#[]⟩ sa [] []) (.slice none 0 0) (.slice none 0 0))::.is _::.is _::[]) (by kernel_rfl) (by kernel_rfl) (by kernel_rfl) (by kernel_rfl) rfl (by rfl) ?main
   case main =>
    apply obsS_step
    · rfl
    ·intro w4 hE4 hk
     have f:=(FACT.out w4 hE4).1
     clear hk hE4
     go_wp2_with (refine wpList_load_row rfl 46 _ rfl gr rfl 46 _ (0,0) _ f Tryz.underlying46 rfl (by kernel_rfl) ?_)
     refine postS_eq ?_ (Below.refl _ _)
     simp only [Act.put,sA,sB,sC]
     try rfl
    iterate 5
     ·simp only [Act.put,sA,sB,sC]
      rfl
     apply obsS_step
     · rfl
     ·intro w4 hE4 hk
      clear hk hE4
      go_wp2
      refine postS_eq ?_ (Below.refl _ _)
      simp only [Act.put,sA,sB,sC]
      try rfl
    ·simp only [Act.put,sA,sB,sC]
     rfl
    apply obsS_step
    · rfl
    ·intro w4 hE4 hk
     have f:=(FACT.out w4 hE4).2.cell 0
     simp [inV] at f
     clear hk hE4
     go_wp2
     refine postS_eq ?_ (Below.refl _ _)
     simp only [Act.put,sA,sB,sC]
     try rfl
    iterate 2
     ·simp only [Act.put,sA,sB,sC]
      rfl
     apply obsS_step
     · rfl
     ·intro w4 hE4 hk
      clear hk hE4
      go_wp2
      refine postS_eq ?_ (Below.refl _ _)
      simp only [Act.put,sA,sB,sC]
      try rfl
    ·simp only [Act.put,sA,sB,sC]
     rfl
    apply obsS_wrote
    · rfl
    ·intro w4 hE4 hk
     have f:=RES.out.keep hE4 RES.out.lt
     have g1:=f.setRow (recCells (Rc.mk 2 a pg of b c 0 ⟨#[]⟩ sa [] []) (.slice none 0 0) (.slice none 0 0))
     have g2:Only (· = w.heap.size) w4 (w4.setRow w.heap.size (recCells (Rc.mk 2 a pg of b c 0 ⟨#[]⟩ sa [] []) (.slice none 0 0) (.slice none 0 0))):=(Only.refl (· = w.heap.size) w4).setRow (g:=w.heap.size) (.inl rfl) _
     clear hk hE4
     go_wp2_with (refine wpList_store_row rfl 46 _ _ rfl w.heap.size _ rfl rfl 46 _ f (by kernel_rfl) rfl (by simp [recCells,Value.oneCell']) ?_)
     exact postS_wrote rfl g1 g2
    ·intro x
     simp only [Act.put,sA,sB,sC]
     try rfl
    intro x
    iterate 2
     apply obsS_step
     · rfl
     ·intro w4 hE4 hk
      clear hk hE4
      go_wp2
      refine postS_eq ?_ (Below.refl _ _)
      simp only [Act.put,sA,sB,sC]
      try rfl
     ·simp only [Act.put,sA,sB,sC]
      rfl
    refine obsS_end fun w7 hE hkn=>?_
    have hg:Blk w7 w.heap.size 46 (recCells (Rc.mk 2 a pg of b c 0 ⟨#[]⟩ sa [] []) (.slice none 0 0) (.slice none 0 0)):=hkn _ (List.mem_cons_self)
    obtain ⟨hl,hB⟩:=OUT.out w7 hE
    have HL:=Lib.hid hl
    have HB:=Lib.hid hB
    clear hl hB hE hkn
    change wpList _ _ _ _ _ _
    go_wp2
    refine bodyPost_ret (results_tt rfl _ _ w.heap.size 46 (recCells (Rc.mk 2 a pg of b c 0 ⟨#[]⟩ sa [] []) (.slice none 0 0) (.slice none 0 0)) _ rfl hg Tryz.underlying46 rfl (by kernel_rfl)) rfl ?_
    rw [HR.out]
    exact ⟨_,_,rfl,HL.out,NEW.out.1,NEW.out.2,HB.out⟩
  ·have HR:=Lib.hid (readR_no HH.out HREC.out (.inr hm))
   have HM:=Lib.hid (refMay_any IR.out hsz4 false ⟨fun h=>(by cases h),fun h=>absurd h hm⟩)
   clear hbad hbf hm
   go_wp2_with (refine wpList_load_rowG rfl 46 _ rfl gr rfl 46 _ (0,0) _ N3 Tryz.underlying46 rfl (by kernel_rfl) ?_)
   refine HM.out.mono ?_
   rintro e w6 ⟨rfl,hb6⟩
   have S6:=S9.more hb6
   have hnr:=S6.res
   have HB:=Lib.hid (below_setRow S6.below (Nat.le_refl _) nilRow)
   clear S9 N3 HM hb6 IR i1 S6
   go_wp2_with (refine wpList_store_row rfl 46 _ _ rfl w.heap.size _ rfl rfl 46 _ hnr (by kernel_rfl) rfl (by simp [recCells,Value.oneCell']) ?_)
   refine bodyPost_ret (results_tt rfl _ _ w.heap.size 46 nilRow _ rfl (hnr.setRow _) Tryz.underlying46 rfl (by kernel_rfl)) rfl ?_
   rw [HR.out]
   exact ⟨_,_,rfl,Lists.nil _ _ rfl rfl,New.nil _,New.nil _,HB.out⟩
end Go.Proofs.YthkbcfhjmnpggaaGreat
