/- Texts that belong together, joined: RinK34. -/
import Derived.Test.YthkbcfhjmnpggaaGreatK29
namespace Go.Proofs.YthkbcfhjmnpggaaGreat
open Go.RowKit
set_option linter.unusedSimpArgs false
set_option maxRecDepth 100000 in
set_option maxHeartbeats 8000000 in
theorem refRead_3 (s:ByteArray) (k:Nat) (w:World) (hs:s.size≤maxLen) (h:k≤s.size) (hk:(rin0 s k).small=3) :
 Calls Tryz.prog 87 #[.string s,.int .i64 k] w (Reads3N w (readR s k)):=by
 have hrec:Rin.rec0 (rin0 s k)=({ Rc.nil with kind:=3,txn:=((rin0 s k).rest 1).four,prev:=(((rin0 s k).rest 1).rest 4).four },(((rin0 s k).rest 1).rest 4).rest 4):=by
  unfold Rin.rec0
  rw [hk]
  rfl
 have hle:(rin0 s k).s.length≤maxLen:=by show (s.data.toList.drop k).length≤_; rw [List.length_drop,size_bytes]; omega
 have hex:(s.extract k s.size)=⟨(s.data.toList.drop k).toArray⟩:=bytes_drop s.data.toList k s.size rfl
 have HREC:=Lib.hid hrec
 have HLE:=Lib.hid hle
 have HEX:=Lib.hid hex
 have HK:=Lib.hid hk
 have HH:=Lib.hid h
 have hkr:(k:Int)≤(s.size:Int):=by omega
 have hk0:decide ((k:Int) < 0)=false:=by simp
 clear hrec hle hex hk
 unfold maxLen at hs
 go_enter Tryz.func87,Tryz.ntmps87
 go_wp2_with fail
 rw [HEX.out]
 change Calls _ _ _ ((w.alloc (.cells nilRow 46)).alloc (.cells (inV (rin0 s k)) 176)) _
 have hb0:Blk ((w.alloc (.cells nilRow 46)).alloc (.cells (inV (rin0 s k)) 176)) (w.heap.size+1) 176 (inV (rin0 s k)):=by
  have:=Blk.new (w.alloc (.cells nilRow 46)) 176 (inV (rin0 s k))
  rwa [World.size_alloc] at this
 refine (inSmall_any (x:=rin0 s k) hb0 HLE.out).mono ?_
 rintro e w1 ⟨rfl,hb,ho⟩
 clear hb0
 have S1:=RS.start (x:=rin0 s k) HLE.out rfl hb ho 3
 have hn:=Blk.new w1 46 nilRow
 rw [HK.out]
 go_upto_region 5 with (refine wpList_store_row rfl 46 _ _ rfl w1.heap.size _ rfl rfl 46 _ hn (by kernel_rfl) rfl (by simp [Value.oneCell']) ?_)
 change Code.wp _ _ _ _ ((w1.alloc (.cells nilRow 46)).setRow w1.heap.size (recCells { Rc.nil with kind:=3 } (.slice none 0 0) (.slice none 0 0)))
 clear hb ho hn
 have hne:w1.heap.size≠w.heap.size+1:=S1.xr
 generalize hW:((w1.alloc (.cells nilRow 46)).setRow w1.heap.size (recCells { Rc.nil with kind:=3 } (.slice none 0 0) (.slice none 0 0)))=w2 at *
 clear hW
 generalize w1.heap.size=gr at *
 have c0:=S1.row.cell 0
 simp [recCells] at c0
 generalize hx1:(rin0 s k).rest 1=x1 at *
 go_wp2_with fail
 refine (inFour_any S1.inn S1.le).mono ?_
 rintro e w3 ⟨rfl,hb,ho⟩
 have T3:=S1.took hb ho
 clear hb ho S1
 have cc:=T3.row.cell 1
 simp [recCells,Rc.nil] at cc
 have zz:=T3.row.frozen 1
 generalize x1.four=a at *
 generalize x1.rest 4=x2 at *
 have S3:=T3.set (r':={ Rc.nil with kind:=3,txn:=a }) 1 (.int .i64 a) rfl rfl rfl
 clear T3
 go_wp2_with fail
 refine (inFour_any S3.inn S3.le).mono ?_
 rintro e w4 ⟨rfl,hb,ho⟩
 have T4:=S3.took hb ho
 clear hb ho S3
 clear cc zz
 have cc:=T4.row.cell 4
 simp [recCells,Rc.nil] at cc
 have zz:=T4.row.frozen 4
 generalize x2.four=b at *
 generalize x2.rest 4=x3 at *
 have S4:=T4.set (r':={ Rc.nil with kind:=3,txn:=a,prev:=b }) 4 (.int .i64 b) rfl rfl rfl
 clear T4
 have c0:=S4.row.cell 0
 simp [recCells] at c0
 go_upto_region 38 with (fail)
 clear cc zz c0
 generalize w4.setCell ⟨gr,4,none⟩ (.int .i64 b)=v4 at *
 have hsz4:(Rc.mk 3 a 0 0 b 0 0 ⟨#[]⟩ ⟨#[]⟩ [] []).before.size≤maxLen∧(Rc.mk 3 a 0 0 b 0 0 ⟨#[]⟩ ⟨#[]⟩ [] []).after.size≤maxLen:=⟨Nat.zero_le _,Nat.zero_le _⟩
 have i1:=S4.inn.cell 1
 simp [inV] at i1
 have hnr:=S4.res
 by_cases hbad:x3.bad=true
 ·have hR:=readR_no HH.out HREC.out (.inl hbad)
  have HR:=Lib.hid hR
  have HB:=Lib.hid (below_setRow S4.below (Nat.le_refl _) nilRow)
  rw [hbad] at i1
  clear hbad hR S4
  go_wp2_with (refine wpList_store_row rfl 46 _ _ rfl w.heap.size _ rfl rfl 46 _ hnr (by kernel_rfl) rfl (by simp [recCells,Value.oneCell']) ?_)
  refine bodyPost_ret (results_tt rfl _ _ w.heap.size 46 nilRow _ rfl (hnr.setRow _) Tryz.underlying46 rfl (by kernel_rfl)) rfl ?_
  rw [HR.out]
  exact ⟨_,_,rfl,Lists.nil _ _ rfl rfl,New.nil _,New.nil _,HB.out⟩
 ·have hbf:x3.bad=false:=by simpa using hbad
  rw [hbf] at i1
  have N3:=S4.row
  have IR:=Lib.hid S4.isRec
  by_cases hm:May (Rc.mk 3 a 0 0 b 0 0 ⟨#[]⟩ ⟨#[]⟩ [] [])
  ·have HR:=Lib.hid (readR_yes HH.out HREC.out hbf hm)
   have HM:=Lib.hid (refMay_any IR.out hsz4 true ⟨fun _=>hm,fun _=>rfl⟩)
   clear hbad hbf hm
   go_wp2_with (refine wpList_load_rowG rfl 46 _ rfl gr rfl 46 _ (0,0) _ N3 Tryz.underlying46 rfl (by kernel_rfl) ?_)
   refine HM.out.mono ?_
   rintro e w6 ⟨rfl,hb6⟩
   have S6:=S4.more hb6
   have hyl:=rin0_le HREC.out
   have hy2:(⟨x3.s.toArray⟩:ByteArray).size=x3.s.length:=by simp [ByteArray.size]
   have hxR:=S6.xR
   have FACT:Hid (∀ W,Only (· = w.heap.size) w6.drew W→Blk W gr 46 (recCells (Rc.mk 3 a 0 0 b 0 0 ⟨#[]⟩ ⟨#[]⟩ [] []) (.slice none 0 0) (.slice none 0 0))∧Blk W (w.heap.size+1) 176 (inV x3)) :=
    fun W hW=>⟨hW.blk S6.drew.row S6.ne,hW.blk S6.drew.inn S6.xR.symm⟩
   have OUT:Hid (∀ W,Only (· = w.heap.size) w6.drew W→Lists W (Rc.mk 3 a 0 0 b 0 0 ⟨#[]⟩ ⟨#[]⟩ [] []) (.slice none 0 0) (.slice none 0 0)∧Below w.heap.size w W) :=
    fun W hW=>⟨⟨.ofOwn (own_only S6.drew.t hW fun b hv e=>own_blk S6.drew.t S6.drew.res (by decide) (by rw [hv]; congr 1)),.ofOwn (own_only S6.drew.p hW fun b hv e=>own_blk S6.drew.p S6.drew.res (by decide) (by rw [hv]; congr 1))⟩,
     hW.below S6.drew.below S6.drew.below.size fun b e=>by omega⟩
   have NEW:Hid (New w (.slice none 0 0)∧New w (.slice none 0 0)):=⟨.own S6.t (Nat.le_refl _),.own S6.p (Nat.le_refl _)⟩
   have RES:=Lib.hid S6.drew.res
   clear S4 N3 HM hb6 IR i1 hnr
   go_wp2_with fail
   refine' wp_region_store (S:=(· = w.heap.size)) 12 (.is _::.is _::.is _::.is _::.is _::.is _::.is _::.is _::.is _::.wrote w.heap.size 46 (recCells (Rc.mk 3 a 0 0 b 0 0 ⟨#[]⟩ ⟨#[]⟩ [] []) (.slice none 0 0) (.slice none 0 0))::.is _::.is _::[]) (by kernel_rfl) (by kernel_rfl) (by kernel_rfl) (by kernel_rfl) rfl (by rfl) ?main
   case main =>
    apply obsS_step
    · rfl
    ·intro w4 hE4 hk
     have f:=(FACT.out w4 hE4).1
     clear hk hE4
     go_wp2_with (refine wpList_load_row rfl 46 _ rfl gr rfl 46 _ (0,0) _ f Tryz.underlying46 rfl (by kernel_rfl) ?_)
     refine postS_eq ?_ (Below.refl _ _)
     simp only [Act.put,sA,sB,sC]
     try rfl
    iterate 5
     ·simp only [Act.put,sA,sB,sC]
      rfl
     apply obsS_step
     · rfl
     ·intro w4 hE4 hk
      clear hk hE4
      go_wp2
      refine postS_eq ?_ (Below.refl _ _)
      simp only [Act.put,sA,sB,sC]
      try rfl
    ·simp only [Act.put,sA,sB,sC]
     rfl
    apply obsS_step
    · rfl
    ·intro w4 hE4 hk
     have f:=(FACT.out w4 hE4).2.cell 0
     simp [inV] at f
     clear hk hE4
     go_wp2
     refine postS_eq ?_ (Below.refl _ _)
     simp only [Act.put,sA,sB,sC]
     try rfl
    iterate 2
     ·simp only [Act.put,sA,sB,sC]
      rfl
     apply obsS_step
     · rfl
     ·intro w4 hE4 hk
      clear hk hE4
      go_wp2
      refine postS_eq ?_ (Below.refl _ _)
      simp only [Act.put,sA,sB,sC]
      try rfl
    ·simp only [Act.put,sA,sB,sC]
     rfl
    apply obsS_wrote
    · rfl
    ·intro w4 hE4 hk
     have f:=RES.out.keep hE4 RES.out.lt
     have g1:=f.setRow (recCells (Rc.mk 3 a 0 0 b 0 0 ⟨#[]⟩ ⟨#[]⟩ [] []) (.slice none 0 0) (.slice none 0 0))
     have g2:Only (· = w.heap.size) w4 (w4.setRow w.heap.size (recCells (Rc.mk 3 a 0 0 b 0 0 ⟨#[]⟩ ⟨#[]⟩ [] []) (.slice none 0 0) (.slice none 0 0))):=(Only.refl (· = w.heap.size) w4).setRow (g:=w.heap.size) (.inl rfl) _
     clear hk hE4
     go_wp2_with (refine wpList_store_row rfl 46 _ _ rfl w.heap.size _ rfl rfl 46 _ f (by kernel_rfl) rfl (by simp [recCells,Value.oneCell']) ?_)
     exact postS_wrote rfl g1 g2
    ·intro x
     simp only [Act.put,sA,sB,sC]
     try rfl
    intro x
    iterate 2
     apply obsS_step
     · rfl
     ·intro w4 hE4 hk
      clear hk hE4
      go_wp2
      refine postS_eq ?_ (Below.refl _ _)
      simp only [Act.put,sA,sB,sC]
      try rfl
     ·simp only [Act.put,sA,sB,sC]
      rfl
    refine obsS_end fun w7 hE hkn=>?_
    have hg:Blk w7 w.heap.size 46 (recCells (Rc.mk 3 a 0 0 b 0 0 ⟨#[]⟩ ⟨#[]⟩ [] []) (.slice none 0 0) (.slice none 0 0)):=hkn _ (List.mem_cons_self)
    obtain ⟨hl,hB⟩:=OUT.out w7 hE
    have HL:=Lib.hid hl
    have HB:=Lib.hid hB
    clear hl hB hE hkn
    change wpList _ _ _ _ _ _
    go_wp2
    refine bodyPost_ret (results_tt rfl _ _ w.heap.size 46 (recCells (Rc.mk 3 a 0 0 b 0 0 ⟨#[]⟩ ⟨#[]⟩ [] []) (.slice none 0 0) (.slice none 0 0)) _ rfl hg Tryz.underlying46 rfl (by kernel_rfl)) rfl ?_
    rw [HR.out]
    exact ⟨_,_,rfl,HL.out,NEW.out.1,NEW.out.2,HB.out⟩
  ·have HR:=Lib.hid (readR_no HH.out HREC.out (.inr hm))
   have HM:=Lib.hid (refMay_any IR.out hsz4 false ⟨fun h=>(by cases h),fun h=>absurd h hm⟩)
   clear hbad hbf hm
   go_wp2_with (refine wpList_load_rowG rfl 46 _ rfl gr rfl 46 _ (0,0) _ N3 Tryz.underlying46 rfl (by kernel_rfl) ?_)
   refine HM.out.mono ?_
   rintro e w6 ⟨rfl,hb6⟩
   have S6:=S4.more hb6
   have hnr:=S6.res
   have HB:=Lib.hid (below_setRow S6.below (Nat.le_refl _) nilRow)
   clear S4 N3 HM hb6 IR i1 S6
   go_wp2_with (refine wpList_store_row rfl 46 _ _ rfl w.heap.size _ rfl rfl 46 _ hnr (by kernel_rfl) rfl (by simp [recCells,Value.oneCell']) ?_)
   refine bodyPost_ret (results_tt rfl _ _ w.heap.size 46 nilRow _ rfl (hnr.setRow _) Tryz.underlying46 rfl (by kernel_rfl)) rfl ?_
   rw [HR.out]
   exact ⟨_,_,rfl,Lists.nil _ _ rfl rfl,New.nil _,New.nil _,HB.out⟩
set_option maxRecDepth 100000 in
set_option maxHeartbeats 8000000 in
theorem refRead_4 (s:ByteArray) (k:Nat) (w:World) (hs:s.size≤maxLen) (h:k≤s.size) (hk:(rin0 s k).small=4) :
 Calls Tryz.prog 87 #[.string s,.int .i64 k] w (Reads3N w (readR s k)):=by
 have hrec:Rin.rec0 (rin0 s k)=({ Rc.nil with kind:=4,txn:=((rin0 s k).rest 1).four,prev:=(((rin0 s k).rest 1).rest 4).four },(((rin0 s k).rest 1).rest 4).rest 4):=by
  unfold Rin.rec0
  rw [hk]
  rfl
 have hle:(rin0 s k).s.length≤maxLen:=by show (s.data.toList.drop k).length≤_; rw [List.length_drop,size_bytes]; omega
 have hex:(s.extract k s.size)=⟨(s.data.toList.drop k).toArray⟩:=bytes_drop s.data.toList k s.size rfl
 have HREC:=Lib.hid hrec
 have HLE:=Lib.hid hle
 have HEX:=Lib.hid hex
 have HK:=Lib.hid hk
 have HH:=Lib.hid h
 have hkr:(k:Int)≤(s.size:Int):=by omega
 have hk0:decide ((k:Int) < 0)=false:=by simp
 clear hrec hle hex hk
 unfold maxLen at hs
 go_enter Tryz.func87,Tryz.ntmps87
 go_wp2_with fail
 rw [HEX.out]
 change Calls _ _ _ ((w.alloc (.cells nilRow 46)).alloc (.cells (inV (rin0 s k)) 176)) _
 have hb0:Blk ((w.alloc (.cells nilRow 46)).alloc (.cells (inV (rin0 s k)) 176)) (w.heap.size+1) 176 (inV (rin0 s k)):=by
  have:=Blk.new (w.alloc (.cells nilRow 46)) 176 (inV (rin0 s k))
  rwa [World.size_alloc] at this
 refine (inSmall_any (x:=rin0 s k) hb0 HLE.out).mono ?_
 rintro e w1 ⟨rfl,hb,ho⟩
 clear hb0
 have S1:=RS.start (x:=rin0 s k) HLE.out rfl hb ho 4
 have hn:=Blk.new w1 46 nilRow
 rw [HK.out]
 go_upto_region 5 with (refine wpList_store_row rfl 46 _ _ rfl w1.heap.size _ rfl rfl 46 _ hn (by kernel_rfl) rfl (by simp [Value.oneCell']) ?_)
 change Code.wp _ _ _ _ ((w1.alloc (.cells nilRow 46)).setRow w1.heap.size (recCells { Rc.nil with kind:=4 } (.slice none 0 0) (.slice none 0 0)))
 clear hb ho hn
 have hne:w1.heap.size≠w.heap.size+1:=S1.xr
 generalize hW:((w1.alloc (.cells nilRow 46)).setRow w1.heap.size (recCells { Rc.nil with kind:=4 } (.slice none 0 0) (.slice none 0 0)))=w2 at *
 clear hW
 generalize w1.heap.size=gr at *
 have c0:=S1.row.cell 0
 simp [recCells] at c0
 generalize hx1:(rin0 s k).rest 1=x1 at *
 go_wp2_with fail
 refine (inFour_any S1.inn S1.le).mono ?_
 rintro e w3 ⟨rfl,hb,ho⟩
 have T3:=S1.took hb ho
 clear hb ho S1
 have cc:=T3.row.cell 1
 simp [recCells,Rc.nil] at cc
 have zz:=T3.row.frozen 1
 generalize x1.four=a at *
 generalize x1.rest 4=x2 at *
 have S3:=T3.set (r':={ Rc.nil with kind:=4,txn:=a }) 1 (.int .i64 a) rfl rfl rfl
 clear T3
 go_wp2_with fail
 refine (inFour_any S3.inn S3.le).mono ?_
 rintro e w4 ⟨rfl,hb,ho⟩
 have T4:=S3.took hb ho
 clear hb ho S3
 clear cc zz
 have cc:=T4.row.cell 4
 simp [recCells,Rc.nil] at cc
 have zz:=T4.row.frozen 4
 generalize x2.four=b at *
 generalize x2.rest 4=x3 at *
 have S4:=T4.set (r':={ Rc.nil with kind:=4,txn:=a,prev:=b }) 4 (.int .i64 b) rfl rfl rfl
 clear T4
 have c0:=S4.row.cell 0
 simp [recCells] at c0
 go_upto_region 38 with (fail)
 clear cc zz c0
 generalize w4.setCell ⟨gr,4,none⟩ (.int .i64 b)=v4 at *
 have hsz4:(Rc.mk 4 a 0 0 b 0 0 ⟨#[]⟩ ⟨#[]⟩ [] []).before.size≤maxLen∧(Rc.mk 4 a 0 0 b 0 0 ⟨#[]⟩ ⟨#[]⟩ [] []).after.size≤maxLen:=⟨Nat.zero_le _,Nat.zero_le _⟩
 have i1:=S4.inn.cell 1
 simp [inV] at i1
 have hnr:=S4.res
 by_cases hbad:x3.bad=true
 ·have hR:=readR_no HH.out HREC.out (.inl hbad)
  have HR:=Lib.hid hR
  have HB:=Lib.hid (below_setRow S4.below (Nat.le_refl _) nilRow)
  rw [hbad] at i1
  clear hbad hR S4
  go_wp2_with (refine wpList_store_row rfl 46 _ _ rfl w.heap.size _ rfl rfl 46 _ hnr (by kernel_rfl) rfl (by simp [recCells,Value.oneCell']) ?_)
  refine bodyPost_ret (results_tt rfl _ _ w.heap.size 46 nilRow _ rfl (hnr.setRow _) Tryz.underlying46 rfl (by kernel_rfl)) rfl ?_
  rw [HR.out]
  exact ⟨_,_,rfl,Lists.nil _ _ rfl rfl,New.nil _,New.nil _,HB.out⟩
 ·have hbf:x3.bad=false:=by simpa using hbad
  rw [hbf] at i1
  have N3:=S4.row
  have IR:=Lib.hid S4.isRec
  by_cases hm:May (Rc.mk 4 a 0 0 b 0 0 ⟨#[]⟩ ⟨#[]⟩ [] [])
  ·have HR:=Lib.hid (readR_yes HH.out HREC.out hbf hm)
   have HM:=Lib.hid (refMay_any IR.out hsz4 true ⟨fun _=>hm,fun _=>rfl⟩)
   clear hbad hbf hm
   go_wp2_with (refine wpList_load_rowG rfl 46 _ rfl gr rfl 46 _ (0,0) _ N3 Tryz.underlying46 rfl (by kernel_rfl) ?_)
   refine HM.out.mono ?_
   rintro e w6 ⟨rfl,hb6⟩
   have S6:=S4.more hb6
   have hyl:=rin0_le HREC.out
   have hy2:(⟨x3.s.toArray⟩:ByteArray).size=x3.s.length:=by simp [ByteArray.size]
   have hxR:=S6.xR
   have FACT:Hid (∀ W,Only (· = w.heap.size) w6.drew W→Blk W gr 46 (recCells (Rc.mk 4 a 0 0 b 0 0 ⟨#[]⟩ ⟨#[]⟩ [] []) (.slice none 0 0) (.slice none 0 0))∧Blk W (w.heap.size+1) 176 (inV x3)) :=
    fun W hW=>⟨hW.blk S6.drew.row S6.ne,hW.blk S6.drew.inn S6.xR.symm⟩
   have OUT:Hid (∀ W,Only (· = w.heap.size) w6.drew W→Lists W (Rc.mk 4 a 0 0 b 0 0 ⟨#[]⟩ ⟨#[]⟩ [] []) (.slice none 0 0) (.slice none 0 0)∧Below w.heap.size w W) :=
    fun W hW=>⟨⟨.ofOwn (own_only S6.drew.t hW fun b hv e=>own_blk S6.drew.t S6.drew.res (by decide) (by rw [hv]; congr 1)),.ofOwn (own_only S6.drew.p hW fun b hv e=>own_blk S6.drew.p S6.drew.res (by decide) (by rw [hv]; congr 1))⟩,
     hW.below S6.drew.below S6.drew.below.size fun b e=>by omega⟩
   have NEW:Hid (New w (.slice none 0 0)∧New w (.slice none 0 0)):=⟨.own S6.t (Nat.le_refl _),.own S6.p (Nat.le_refl _)⟩
   have RES:=Lib.hid S6.drew.res
   clear S4 N3 HM hb6 IR i1 hnr
   go_wp2_with fail
   refine' wp_region_store (S:=(· = w.heap.size)) 12 (.is _::.is _::.is _::.is _::.is _::.is _::.is _::.is _::.is _::.wrote w.heap.size 46 (recCells (Rc.mk 4 a 0 0 b 0 0 ⟨#[]⟩ ⟨#[]⟩ [] []) (.slice none 0 0) (.slice none 0 0))::.is _::.is _::[]) (by kernel_rfl) (by kernel_rfl) (by kernel_rfl) (by kernel_rfl) rfl (by rfl) ?main
   case main =>
    apply obsS_step
    · rfl
    ·intro w4 hE4 hk
     have f:=(FACT.out w4 hE4).1
     clear hk hE4
     go_wp2_with (refine wpList_load_row rfl 46 _ rfl gr rfl 46 _ (0,0) _ f Tryz.underlying46 rfl (by kernel_rfl) ?_)
     refine postS_eq ?_ (Below.refl _ _)
     simp only [Act.put,sA,sB,sC]
     try rfl
    iterate 5
     ·simp only [Act.put,sA,sB,sC]
      rfl
     apply obsS_step
     · rfl
     ·intro w4 hE4 hk
      clear hk hE4
      go_wp2
      refine postS_eq ?_ (Below.refl _ _)
      simp only [Act.put,sA,sB,sC]
      try rfl
    ·simp only [Act.put,sA,sB,sC]
     rfl
    apply obsS_step
    · rfl
    ·intro w4 hE4 hk
     have f:=(FACT.out w4 hE4).2.cell 0
     simp [inV] at f
     clear hk hE4
     go_wp2
     refine postS_eq ?_ (Below.refl _ _)
     simp only [Act.put,sA,sB,sC]
     try rfl
    iterate 2
     ·simp only [Act.put,sA,sB,sC]
      rfl
     apply obsS_step
     · rfl
     ·intro w4 hE4 hk
      clear hk hE4
      go_wp2
      refine postS_eq ?_ (Below.refl _ _)
      simp only [Act.put,sA,sB,sC]
      try rfl
    ·simp only [Act.put,sA,sB,sC]
     rfl
    apply obsS_wrote
    · rfl
    ·intro w4 hE4 hk
     have f:=RES.out.keep hE4 RES.out.lt
     have g1:=f.setRow (recCells (Rc.mk 4 a 0 0 b 0 0 ⟨#[]⟩ ⟨#[]⟩ [] []) (.slice none 0 0) (.slice none 0 0))
     have g2:Only (· = w.heap.size) w4 (w4.setRow w.heap.size (recCells (Rc.mk 4 a 0 0 b 0 0 ⟨#[]⟩ ⟨#[]⟩ [] []) (.slice none 0 0) (.slice none 0 0))):=(Only.refl (· = w.heap.size) w4).setRow (g:=w.heap.size) (.inl rfl) _
     clear hk hE4
     go_wp2_with (refine wpList_store_row rfl 46 _ _ rfl w.heap.size _ rfl rfl 46 _ f (by kernel_rfl) rfl (by simp [recCells,Value.oneCell']) ?_)
     exact postS_wrote rfl g1 g2
    ·intro x
     simp only [Act.put,sA,sB,sC]
     try rfl
    intro x
    iterate 2
     apply obsS_step
     · rfl
     ·intro w4 hE4 hk
      clear hk hE4
      go_wp2
      refine postS_eq ?_ (Below.refl _ _)
      simp only [Act.put,sA,sB,sC]
      try rfl
     ·simp only [Act.put,sA,sB,sC]
      rfl
    refine obsS_end fun w7 hE hkn=>?_
    have hg:Blk w7 w.heap.size 46 (recCells (Rc.mk 4 a 0 0 b 0 0 ⟨#[]⟩ ⟨#[]⟩ [] []) (.slice none 0 0) (.slice none 0 0)):=hkn _ (List.mem_cons_self)
    obtain ⟨hl,hB⟩:=OUT.out w7 hE
    have HL:=Lib.hid hl
    have HB:=Lib.hid hB
    clear hl hB hE hkn
    change wpList _ _ _ _ _ _
    go_wp2
    refine bodyPost_ret (results_tt rfl _ _ w.heap.size 46 (recCells (Rc.mk 4 a 0 0 b 0 0 ⟨#[]⟩ ⟨#[]⟩ [] []) (.slice none 0 0) (.slice none 0 0)) _ rfl hg Tryz.underlying46 rfl (by kernel_rfl)) rfl ?_
    rw [HR.out]
    exact ⟨_,_,rfl,HL.out,NEW.out.1,NEW.out.2,HB.out⟩
  ·have HR:=Lib.hid (readR_no HH.out HREC.out (.inr hm))
   have HM:=Lib.hid (refMay_any IR.out hsz4 false ⟨fun h=>(by cases h),fun h=>absurd h hm⟩)
   clear hbad hbf hm
   go_wp2_with (refine wpList_load_rowG rfl 46 _ rfl gr rfl 46 _ (0,0) _ N3 Tryz.underlying46 rfl (by kernel_rfl) ?_)
   refine HM.out.mono ?_
   rintro e w6 ⟨rfl,hb6⟩
   have S6:=S4.more hb6
   have hnr:=S6.res
   have HB:=Lib.hid (below_setRow S6.below (Nat.le_refl _) nilRow)
   clear S4 N3 HM hb6 IR i1 S6
   go_wp2_with (refine wpList_store_row rfl 46 _ _ rfl w.heap.size _ rfl rfl 46 _ hnr (by kernel_rfl) rfl (by simp [recCells,Value.oneCell']) ?_)
   refine bodyPost_ret (results_tt rfl _ _ w.heap.size 46 nilRow _ rfl (hnr.setRow _) Tryz.underlying46 rfl (by kernel_rfl)) rfl ?_
   rw [HR.out]
   exact ⟨_,_,rfl,Lists.nil _ _ rfl rfl,New.nil _,New.nil _,HB.out⟩
set_option maxRecDepth 100000 in
set_option maxHeartbeats 8000000 in
theorem refRead_o (kd:Int) (s:ByteArray) (k:Nat) (w:World) (hs:s.size≤maxLen) (h:k≤s.size) (hk:(rin0 s k).small=kd) (n1:kd≠1) (n2:kd≠2) (n3:kd≠3) (n4:kd≠4) (n6:kd≠6) :
 Calls Tryz.prog 87 #[.string s,.int .i64 k] w (Reads3N w (readR s k)):=by
 have hrec:Rin.rec0 (rin0 s k)=({ Rc.nil with kind:=kd },(rin0 s k).rest 1):=by
  unfold Rin.rec0
  rw [hk]
  simp only
  rw [if_neg (by omega),if_neg n6]
 have hle:(rin0 s k).s.length≤maxLen:=by show (s.data.toList.drop k).length≤_; rw [List.length_drop,size_bytes]; omega
 have hex:(s.extract k s.size)=⟨(s.data.toList.drop k).toArray⟩:=bytes_drop s.data.toList k s.size rfl
 have HREC:=Lib.hid hrec
 have HLE:=Lib.hid hle
 have HEX:=Lib.hid hex
 have HK:=Lib.hid hk
 have HH:=Lib.hid h
 have hkr:(k:Int)≤(s.size:Int):=by omega
 have hk0:decide ((k:Int) < 0)=false:=by simp
 clear hrec hle hex hk
 unfold maxLen at hs
 go_enter Tryz.func87,Tryz.ntmps87
 go_wp2_with fail
 rw [HEX.out]
 change Calls _ _ _ ((w.alloc (.cells nilRow 46)).alloc (.cells (inV (rin0 s k)) 176)) _
 have hb0:Blk ((w.alloc (.cells nilRow 46)).alloc (.cells (inV (rin0 s k)) 176)) (w.heap.size+1) 176 (inV (rin0 s k)):=by
  have:=Blk.new (w.alloc (.cells nilRow 46)) 176 (inV (rin0 s k))
  rwa [World.size_alloc] at this
 refine (inSmall_any (x:=rin0 s k) hb0 HLE.out).mono ?_
 rintro e w1 ⟨rfl,hb,ho⟩
 clear hb0
 have S1:=RS.start (x:=rin0 s k) HLE.out rfl hb ho kd
 have hn:=Blk.new w1 46 nilRow
 rw [HK.out]
 go_upto_region 5 with (refine wpList_store_row rfl 46 _ _ rfl w1.heap.size _ rfl rfl 46 _ hn (by kernel_rfl) rfl (by simp [Value.oneCell']) ?_)
 change Code.wp _ _ _ _ ((w1.alloc (.cells nilRow 46)).setRow w1.heap.size (recCells { Rc.nil with kind:=kd } (.slice none 0 0) (.slice none 0 0)))
 clear hb ho hn
 have hne:w1.heap.size≠w.heap.size+1:=S1.xr
 generalize hW:((w1.alloc (.cells nilRow 46)).setRow w1.heap.size (recCells { Rc.nil with kind:=kd } (.slice none 0 0) (.slice none 0 0)))=w2 at *
 clear hW
 generalize w1.heap.size=gr at *
 have c0:=S1.row.cell 0
 simp [recCells] at c0
 generalize hx1:(rin0 s k).rest 1=x1 at *
 have e1:(kd == 1)=false:=by simpa using n1
 have e2:(kd == 2)=false:=by simpa using n2
 have e3:(kd == 3)=false:=by simpa using n3
 have e4:(kd == 4)=false:=by simpa using n4
 have e6:(kd == 6)=false:=by simpa using n6
 clear n1 n2 n3 n4 n6
 go_upto_region 38 with (fail)
 clear c0 e1 e2 e3 e4 e6
 have hsz4:(Rc.mk kd 0 0 0 0 0 0 ⟨#[]⟩ ⟨#[]⟩ [] []).before.size≤maxLen∧(Rc.mk kd 0 0 0 0 0 0 ⟨#[]⟩ ⟨#[]⟩ [] []).after.size≤maxLen:=⟨Nat.zero_le _,Nat.zero_le _⟩
 have i1:=S1.inn.cell 1
 simp [inV] at i1
 have hnr:=S1.res
 by_cases hbad:x1.bad=true
 ·have hR:=readR_no HH.out HREC.out (.inl hbad)
  have HR:=Lib.hid hR
  have HB:=Lib.hid (below_setRow S1.below (Nat.le_refl _) nilRow)
  rw [hbad] at i1
  clear hbad hR S1
  go_wp2_with (refine wpList_store_row rfl 46 _ _ rfl w.heap.size _ rfl rfl 46 _ hnr (by kernel_rfl) rfl (by simp [recCells,Value.oneCell']) ?_)
  refine bodyPost_ret (results_tt rfl _ _ w.heap.size 46 nilRow _ rfl (hnr.setRow _) Tryz.underlying46 rfl (by kernel_rfl)) rfl ?_
  rw [HR.out]
  exact ⟨_,_,rfl,Lists.nil _ _ rfl rfl,New.nil _,New.nil _,HB.out⟩
 ·have hbf:x1.bad=false:=by simpa using hbad
  rw [hbf] at i1
  have N3:=S1.row
  have IR:=Lib.hid S1.isRec
  by_cases hm:May (Rc.mk kd 0 0 0 0 0 0 ⟨#[]⟩ ⟨#[]⟩ [] [])
  ·have HR:=Lib.hid (readR_yes HH.out HREC.out hbf hm)
   have HM:=Lib.hid (refMay_any IR.out hsz4 true ⟨fun _=>hm,fun _=>rfl⟩)
   clear hbad hbf hm
   go_wp2_with (refine wpList_load_rowG rfl 46 _ rfl gr rfl 46 _ (0,0) _ N3 Tryz.underlying46 rfl (by kernel_rfl) ?_)
   refine HM.out.mono ?_
   rintro e w6 ⟨rfl,hb6⟩
   have S6:=S1.more hb6
   have hyl:=rin0_le HREC.out
   have hy2:(⟨x1.s.toArray⟩:ByteArray).size=x1.s.length:=by simp [ByteArray.size]
   have hxR:=S6.xR
   have FACT:Hid (∀ W,Only (· = w.heap.size) w6.drew W→Blk W gr 46 (recCells (Rc.mk kd 0 0 0 0 0 0 ⟨#[]⟩ ⟨#[]⟩ [] []) (.slice none 0 0) (.slice none 0 0))∧Blk W (w.heap.size+1) 176 (inV x1)) :=
    fun W hW=>⟨hW.blk S6.drew.row S6.ne,hW.blk S6.drew.inn S6.xR.symm⟩
   have OUT:Hid (∀ W,Only (· = w.heap.size) w6.drew W→Lists W (Rc.mk kd 0 0 0 0 0 0 ⟨#[]⟩ ⟨#[]⟩ [] []) (.slice none 0 0) (.slice none 0 0)∧Below w.heap.size w W) :=
    fun W hW=>⟨⟨.ofOwn (own_only S6.drew.t hW fun b hv e=>own_blk S6.drew.t S6.drew.res (by decide) (by rw [hv]; congr 1)),.ofOwn (own_only S6.drew.p hW fun b hv e=>own_blk S6.drew.p S6.drew.res (by decide) (by rw [hv]; congr 1))⟩,
     hW.below S6.drew.below S6.drew.below.size fun b e=>by omega⟩
   have NEW:Hid (New w (.slice none 0 0)∧New w (.slice none 0 0)):=⟨.own S6.t (Nat.le_refl _),.own S6.p (Nat.le_refl _)⟩
   have RES:=Lib.hid S6.drew.res
   clear S1 N3 HM hb6 IR i1 hnr
   go_wp2_with fail
   refine' wp_region_store (S:=(· = w.heap.size)) 12 (.is _::.is _::.is _::.is _::.is _::.is _::.is _::.is _::.is _::.wrote w.heap.size 46 (recCells (Rc.mk kd 0 0 0 0 0 0 ⟨#[]⟩ ⟨#[]⟩ [] []) (.slice none 0 0) (.slice none 0 0))::.is _::.is _::[]) (by kernel_rfl) (by kernel_rfl) (by kernel_rfl) (by kernel_rfl) rfl (by rfl) ?main
   case main =>
    apply obsS_step
    · rfl
    ·intro w4 hE4 hk
     have f:=(FACT.out w4 hE4).1
     clear hk hE4
     go_wp2_with (refine wpList_load_row rfl 46 _ rfl gr rfl 46 _ (0,0) _ f Tryz.underlying46 rfl (by kernel_rfl) ?_)
     refine postS_eq ?_ (Below.refl _ _)
     simp only [Act.put,sA,sB,sC]
     try rfl
    iterate 5
     ·simp only [Act.put,sA,sB,sC]
      rfl
     apply obsS_step
     · rfl
     ·intro w4 hE4 hk
      clear hk hE4
      go_wp2
      refine postS_eq ?_ (Below.refl _ _)
      simp only [Act.put,sA,sB,sC]
      try rfl
    ·simp only [Act.put,sA,sB,sC]
     rfl
    apply obsS_step
    · rfl
    ·intro w4 hE4 hk
     have f:=(FACT.out w4 hE4).2.cell 0
     simp [inV] at f
     clear hk hE4
     go_wp2
     refine postS_eq ?_ (Below.refl _ _)
     simp only [Act.put,sA,sB,sC]
     try rfl
    iterate 2
     ·simp only [Act.put,sA,sB,sC]
      rfl
     apply obsS_step
     · rfl
     ·intro w4 hE4 hk
      clear hk hE4
      go_wp2
      refine postS_eq ?_ (Below.refl _ _)
      simp only [Act.put,sA,sB,sC]
      try rfl
    ·simp only [Act.put,sA,sB,sC]
     rfl
    apply obsS_wrote
    · rfl
    ·intro w4 hE4 hk
     have f:=RES.out.keep hE4 RES.out.lt
     have g1:=f.setRow (recCells (Rc.mk kd 0 0 0 0 0 0 ⟨#[]⟩ ⟨#[]⟩ [] []) (.slice none 0 0) (.slice none 0 0))
     have g2:Only (· = w.heap.size) w4 (w4.setRow w.heap.size (recCells (Rc.mk kd 0 0 0 0 0 0 ⟨#[]⟩ ⟨#[]⟩ [] []) (.slice none 0 0) (.slice none 0 0))):=(Only.refl (· = w.heap.size) w4).setRow (g:=w.heap.size) (.inl rfl) _
     clear hk hE4
     go_wp2_with (refine wpList_store_row rfl 46 _ _ rfl w.heap.size _ rfl rfl 46 _ f (by kernel_rfl) rfl (by simp [recCells,Value.oneCell']) ?_)
     exact postS_wrote rfl g1 g2
    ·intro x
     simp only [Act.put,sA,sB,sC]
     try rfl
    intro x
    iterate 2
     apply obsS_step
     · rfl
     ·intro w4 hE4 hk
      clear hk hE4
      go_wp2
      refine postS_eq ?_ (Below.refl _ _)
      simp only [Act.put,sA,sB,sC]
      try rfl
     ·simp only [Act.put,sA,sB,sC]
      rfl
    refine obsS_end fun w7 hE hkn=>?_
    have hg:Blk w7 w.heap.size 46 (recCells (Rc.mk kd 0 0 0 0 0 0 ⟨#[]⟩ ⟨#[]⟩ [] []) (.slice none 0 0) (.slice none 0 0)):=hkn _ (List.mem_cons_self)
    obtain ⟨hl,hB⟩:=OUT.out w7 hE
    have HL:=Lib.hid hl
    have HB:=Lib.hid hB
    clear hl hB hE hkn
    change wpList _ _ _ _ _ _
    go_wp2
    refine bodyPost_ret (results_tt rfl _ _ w.heap.size 46 (recCells (Rc.mk kd 0 0 0 0 0 0 ⟨#[]⟩ ⟨#[]⟩ [] []) (.slice none 0 0) (.slice none 0 0)) _ rfl hg Tryz.underlying46 rfl (by kernel_rfl)) rfl ?_
    rw [HR.out]
    exact ⟨_,_,rfl,HL.out,NEW.out.1,NEW.out.2,HB.out⟩
  ·have HR:=Lib.hid (readR_no HH.out HREC.out (.inr hm))
   have HM:=Lib.hid (refMay_any IR.out hsz4 false ⟨fun h=>(by cases h),fun h=>absurd h hm⟩)
   clear hbad hbf hm
   go_wp2_with (refine wpList_load_rowG rfl 46 _ rfl gr rfl 46 _ (0,0) _ N3 Tryz.underlying46 rfl (by kernel_rfl) ?_)
   refine HM.out.mono ?_
   rintro e w6 ⟨rfl,hb6⟩
   have S6:=S1.more hb6
   have hnr:=S6.res
   have HB:=Lib.hid (below_setRow S6.below (Nat.le_refl _) nilRow)
   clear S1 N3 HM hb6 IR i1 S6
   go_wp2_with (refine wpList_store_row rfl 46 _ _ rfl w.heap.size _ rfl rfl 46 _ hnr (by kernel_rfl) rfl (by simp [recCells,Value.oneCell']) ?_)
   refine bodyPost_ret (results_tt rfl _ _ w.heap.size 46 nilRow _ rfl (hnr.setRow _) Tryz.underlying46 rfl (by kernel_rfl)) rfl ?_
   rw [HR.out]
   exact ⟨_,_,rfl,Lists.nil _ _ rfl rfl,New.nil _,New.nil _,HB.out⟩
end Go.Proofs.YthkbcfhjmnpggaaGreat
