/- Texts that belong together, joined: RecV. -/
import Derived.Test.YthkbcfhjmnpggaaGreatK24
import Derived.Test.YthkbcfhjmnpggaaGreatK25
import Derived.Laws.Concat
namespace Go.Proofs.YthkbcfhjmnpggaaGreat
open Go.RowKit
def strI (n:Int):ByteArray:=⟨(beI n).toArray⟩
def strS (n:Int):ByteArray:=⟨[lowI n].toArray⟩
theorem strI_size (n:Int):(strI n).size=4:=rfl
theorem strS_size (n:Int):(strS n).size=1:=rfl
theorem strI_list (n:Int):(strI n).data.toList=beI n:=rfl
theorem strS_list (n:Int):(strS n).data.toList = [lowI n]:=rfl
theorem bytes_eq {a:ByteArray} {l:List UInt8} (h:a.data.toList=l):a=⟨l.toArray⟩:=by subst h; rfl
theorem smallS_any (n:Int) (w:World):Calls Tryz.prog 72 #[.int .i64 n] w fun e w'=>e=.returned (.string (strS n))∧Below w.heap.size w w':=refSmall_any n w
theorem fourI_any (n:Int) (w:World):Calls Tryz.prog 73 #[.int .i64 n] w fun e w'=>e=.returned (.string (strI n))∧Below w.heap.size w w':=refFour_any n w
set_option maxRecDepth 100000 in
set_option maxHeartbeats 16000000 in
theorem refPrint_1 {w:World} {v:Value} {r:Rc} (hv:IsRec w v r) (hs:r.before.size≤16∧r.after.size≤16) (hk:r.kind=1) :
 Calls Tryz.prog 41 #[v] w fun e w'=>e=.returned (.string (strS 1++strI r.txn++strI r.prev++(strS r.page++strS r.off++strS (r.after.size:Int))++r.before++r.after))∧Below w.heap.size w w':=by
 obtain ⟨vt,vp,rfl,hl⟩:=hv
 obtain ⟨z1,z2⟩:=hs
 obtain ⟨ta,tc,hvt⟩:=hl.t.form
 obtain ⟨pa,pc,hvp⟩:=hl.p.form
 have VT:=Lib.hid hvt
 have VP:=Lib.hid hvp
 have hlt:=hl.t.le
 have hlp:=hl.p.le
 unfold maxLen at hlt hlp
 clear hvt hvp
 have hb0:Below w.heap.size w (w.alloc (.cells (recCells r vt vp) 46)):=(Below.refl _ _).alloc (Nat.le_refl _) _
 have LL:=Lib.hid (hl.keep hb0)
 have HB:=Lib.hid hb0
 have PP:=Lib.hid (Blk.new w 46 (recCells r vt vp))
 have one:=hl.one
 clear hl hb0
 have E0:(recCells r vt vp)[0]? = some (.int .i64 1):=by rw [← hk]; rfl
 have E1:(recCells r vt vp)[1]? = some (.int .i64 r.txn):=rfl
 have E2:(recCells r vt vp)[2]? = some (.int .i64 r.page):=rfl
 have E3:(recCells r vt vp)[3]? = some (.int .i64 r.off):=rfl
 have E4:(recCells r vt vp)[4]? = some (.int .i64 r.prev):=rfl
 have E5:(recCells r vt vp)[5]? = some (.int .i64 r.next):=rfl
 have E6:(recCells r vt vp)[6]? = some (.int .i64 r.beg):=rfl
 have E7:(recCells r vt vp)[7]? = some (.string r.before):=rfl
 have E8:(recCells r vt vp)[8]? = some (.string r.after):=rfl
 have E9:(recCells r vt vp)[9]? = some (.slice ta r.txns.length tc):=by rw [← VT.out]; rfl
 have E10:(recCells r vt vp)[10]? = some (.slice pa r.pages.length pc):=by rw [← VP.out]; rfl
 clear hk
 have F0:=Lib.hid (fun W=>smallS_any 1 W)
 have F1:=Lib.hid (fun W=>smallS_any r.page W)
 have F2:=Lib.hid (fun W=>smallS_any r.off W)
 have F3:=Lib.hid (fun W=>smallS_any (r.after.size:Int) W)
 have F4:=Lib.hid (fun W=>fourI_any r.txn W)
 have F5:=Lib.hid (fun W=>fourI_any r.prev W)
 have F6:=Lib.hid (fun W=>fourI_any r.next W)
 have F7:=Lib.hid (fun W=>fourI_any r.beg W)
 have y0:=strS_size 1
 have y1:=strS_size r.page
 have y2:=strS_size r.off
 have y3:=strS_size (r.after.size:Int)
 have y4:=strI_size r.txn
 have y5:=strI_size r.prev
 have y6:=strI_size r.next
 have y7:=strI_size r.beg
 generalize strS 1=s0 at *
 generalize strS r.page=s1 at *
 generalize strS r.off=s2 at *
 generalize strS (r.after.size:Int)=s3 at *
 generalize strI r.txn=s4 at *
 generalize strI r.prev=s5 at *
 generalize strI r.next=s6 at *
 generalize strI r.beg=s7 at *
 have a1:∀ W,(Op.stringOp .add s1 s2).run Tryz.prog W=.ok (.string (s1++s2)) W:=fun W=>run_string_add_sum W _ _ (by omega)
 have a2:∀ W,(Op.stringOp .add (s1++s2) s3).run Tryz.prog W=.ok (.string (s1++s2++s3)) W:=fun W=>run_string_add_sum W _ _ (by simp only [ByteArray.size_append]; omega)
 have a3:∀ W,(Op.stringOp .add (s0) (s4)).run Tryz.prog W=.ok (.string ((s0)++(s4))) W:=fun W=>run_string_add_sum W _ _ (by first | omega | (simp only [ByteArray.size_append]; omega))
 have a4:∀ W,(Op.stringOp .add (s0++s4) (s5)).run Tryz.prog W=.ok (.string ((s0++s4)++(s5))) W:=fun W=>run_string_add_sum W _ _ (by first | omega | (simp only [ByteArray.size_append]; omega))
 have a5:∀ W,(Op.stringOp .add (s0++s4++s5) (s1++s2++s3)).run Tryz.prog W=.ok (.string ((s0++s4++s5)++(s1++s2++s3))) W:=fun W=>run_string_add_sum W _ _ (by first | omega | (simp only [ByteArray.size_append]; omega))
 have a6:∀ W,(Op.stringOp .add (s0++s4++s5++(s1++s2++s3)) (r.before)).run Tryz.prog W=.ok (.string ((s0++s4++s5++(s1++s2++s3))++(r.before))) W:=fun W=>run_string_add_sum W _ _ (by first | omega | (simp only [ByteArray.size_append]; omega))
 have a7:∀ W,(Op.stringOp .add (s0++s4++s5++(s1++s2++s3)++r.before) (r.after)).run Tryz.prog W=.ok (.string ((s0++s4++s5++(s1++s2++s3)++r.before)++(r.after))) W:=fun W=>run_string_add_sum W _ _ (by first | omega | (simp only [ByteArray.size_append]; omega))
 unfold recV
 go_enter Tryz.func41,Tryz.ntmps41
 go_upto_region 1 with fail
 generalize (w.alloc (.cells (recCells r vt vp) 46))=W1 at *
 have c0:=(PP.out.cell 0).trans E0
 go_wp2_with fail
 refine (F0.out _).mono ?_
 rintro e WW ⟨rfl,hb⟩
 have P6:=Lib.hid (PP.out.keep hb PP.out.lt)
 have L6:=Lib.hid (LL.out.keep hb)
 have B6:=Lib.hid (below2 HB.out hb)
 clear PP LL HB hb c0
 have PP:=P6
 have LL:=L6
 have HB:=B6
 clear P6 L6 B6
 have BX:=Lib.hid (show ∀ W,Below WW.drew.heap.size WW.drew W→W.cell? ⟨w.heap.size,1,none⟩=some (.int .i64 r.txn)∧W.cell? ⟨w.heap.size,2,none⟩=some (.int .i64 r.page)∧W.cell? ⟨w.heap.size,3,none⟩=some (.int .i64 r.off)∧W.cell? ⟨w.heap.size,4,none⟩=some (.int .i64 r.prev)∧W.cell? ⟨w.heap.size,5,none⟩=some (.int .i64 r.next)∧W.cell? ⟨w.heap.size,6,none⟩=some (.int .i64 r.beg)∧W.cell? ⟨w.heap.size,7,none⟩=some (.string r.before)∧W.cell? ⟨w.heap.size,8,none⟩=some (.string r.after)∧W.cell? ⟨w.heap.size,9,none⟩=some (.slice ta r.txns.length tc)∧W.cell? ⟨w.heap.size,10,none⟩=some (.slice pa r.pages.length pc) from
  fun W h=>have Q:=PP.out.drew.keep h PP.out.lt; ⟨(Q.cell 1).trans E1,(Q.cell 2).trans E2,(Q.cell 3).trans E3,(Q.cell 4).trans E4,(Q.cell 5).trans E5,(Q.cell 6).trans E6,(Q.cell 7).trans E7,(Q.cell 8).trans E8,(Q.cell 9).trans E9,(Q.cell 10).trans E10⟩)
 go_wp2_with fail
 refine' wp_region_conf 13 (.is _::.is _::.is _::.is _::.is _::.is _::.is _::.is _::.is _::.is _::.is _::.is _::.is _::[]) (by kernel_rfl) (by kernel_rfl) (by kernel_rfl) (by kernel_rfl) rfl ?main
 case main =>
  apply obs_step
  · rfl
  ·intro w4 hE4 hk
   clear hk hE4
   go_wp2
   refine post_eq ?_ (Below.refl _ _)
   simp only [Act.put,sA,sB,sC]
   try rfl
  ·simp only [Act.put,sA,sB,sC]
   rfl
  apply obs_step
  · rfl
  ·intro w4 hE4 hk
   obtain ⟨c1,c2,c3,c4,c5,c6,c7,c8,c9,c10⟩:=BX.out w4 hE4
   clear hk hE4
   go_wp2
   refine post_eq ?_ (Below.refl _ _)
   simp only [Act.put,sA,sB,sC]
   try rfl
  ·simp only [Act.put,sA,sB,sC]
   rfl
  apply obs_step
  · rfl
  ·intro w4 hE4 hk
   clear hk hE4
   go_wp2_with fail
   refine (F1.out _).mono ?_
   rintro e w5 ⟨rfl,hb5⟩
   go_wp2
   refine post_eq ?_ (hb5)
   simp only [Act.put,sA,sB,sC]
   try rfl
  ·simp only [Act.put,sA,sB,sC]
   rfl
  apply obs_step
  · rfl
  ·intro w4 hE4 hk
   clear hk hE4
   go_wp2
   refine post_eq ?_ (Below.refl _ _)
   simp only [Act.put,sA,sB,sC]
   try rfl
  ·simp only [Act.put,sA,sB,sC]
   rfl
  apply obs_step
  · rfl
  ·intro w4 hE4 hk
   obtain ⟨c1,c2,c3,c4,c5,c6,c7,c8,c9,c10⟩:=BX.out w4 hE4
   clear hk hE4
   go_wp2
   refine post_eq ?_ (Below.refl _ _)
   simp only [Act.put,sA,sB,sC]
   try rfl
  ·simp only [Act.put,sA,sB,sC]
   rfl
  apply obs_step
  · rfl
  ·intro w4 hE4 hk
   clear hk hE4
   go_wp2_with fail
   refine (F2.out _).mono ?_
   rintro e w5 ⟨rfl,hb5⟩
   go_wp2
   refine post_eq ?_ (hb5)
   simp only [Act.put,sA,sB,sC]
   try rfl
  iterate 2
   ·simp only [Act.put,sA,sB,sC]
    rfl
   apply obs_step
   · rfl
   ·intro w4 hE4 hk
    clear hk hE4
    go_wp2
    refine post_eq ?_ (Below.refl _ _)
    simp only [Act.put,sA,sB,sC]
    try rfl
  ·simp only [Act.put,sA,sB,sC]
   rfl
  apply obs_step
  · rfl
  ·intro w4 hE4 hk
   obtain ⟨c1,c2,c3,c4,c5,c6,c7,c8,c9,c10⟩:=BX.out w4 hE4
   clear hk hE4
   go_wp2
   refine post_eq ?_ (Below.refl _ _)
   simp only [Act.put,sA,sB,sC]
   try rfl
  ·simp only [Act.put,sA,sB,sC]
   rfl
  apply obs_step
  · rfl
  ·intro w4 hE4 hk
   clear hk hE4
   go_wp2
   refine post_eq ?_ (Below.refl _ _)
   simp only [Act.put,sA,sB,sC]
   try rfl
  ·simp only [Act.put,sA,sB,sC]
   rfl
  apply obs_step
  · rfl
  ·intro w4 hE4 hk
   clear hk hE4
   go_wp2_with fail
   refine (F3.out _).mono ?_
   rintro e w5 ⟨rfl,hb5⟩
   go_wp2
   refine post_eq ?_ (hb5)
   simp only [Act.put,sA,sB,sC]
   try rfl
  iterate 2
   ·simp only [Act.put,sA,sB,sC]
    rfl
   apply obs_step
   · rfl
   ·intro w4 hE4 hk
    clear hk hE4
    go_wp2
    refine post_eq ?_ (Below.refl _ _)
    simp only [Act.put,sA,sB,sC]
    try rfl
  ·simp only [Act.put,sA,sB,sC]
   rfl
  refine obs_end fun w6 hE6 _=>?_
  have hE7:=((Below.refl WW.heap.size WW).drew).trans hE6
  have P6:=Lib.hid (PP.out.keep hE7 PP.out.lt)
  have L6:=Lib.hid (LL.out.keep hE7)
  have B6:=Lib.hid (below2 HB.out hE7)
  clear PP LL HB BX hE6 hE7
  have PP:=P6
  have LL:=L6
  have HB:=B6
  clear P6 L6 B6
  have c0:=(PP.out.cell 0).trans E0
  clear a1 a2 F0 F1 F2 F3 WW
  generalize w6=WW at *
  go_wp2_with fail
  have BX:=Lib.hid (show ∀ W,Below WW.drew.heap.size WW.drew W→W.cell? ⟨w.heap.size,1,none⟩=some (.int .i64 r.txn)∧W.cell? ⟨w.heap.size,2,none⟩=some (.int .i64 r.page)∧W.cell? ⟨w.heap.size,3,none⟩=some (.int .i64 r.off)∧W.cell? ⟨w.heap.size,4,none⟩=some (.int .i64 r.prev)∧W.cell? ⟨w.heap.size,5,none⟩=some (.int .i64 r.next)∧W.cell? ⟨w.heap.size,6,none⟩=some (.int .i64 r.beg)∧W.cell? ⟨w.heap.size,7,none⟩=some (.string r.before)∧W.cell? ⟨w.heap.size,8,none⟩=some (.string r.after)∧W.cell? ⟨w.heap.size,9,none⟩=some (.slice ta r.txns.length tc)∧W.cell? ⟨w.heap.size,10,none⟩=some (.slice pa r.pages.length pc) from
   fun W h=>have Q:=PP.out.drew.keep h PP.out.lt; ⟨(Q.cell 1).trans E1,(Q.cell 2).trans E2,(Q.cell 3).trans E3,(Q.cell 4).trans E4,(Q.cell 5).trans E5,(Q.cell 6).trans E6,(Q.cell 7).trans E7,(Q.cell 8).trans E8,(Q.cell 9).trans E9,(Q.cell 10).trans E10⟩)
  clear c0
  refine' wp_region_conf 18 (.is _::.is _::.is _::.is _::.is _::.is _::.is _::.is _::.is _::.is _::.is _::.is _::.is _::.is _::.is _::.is _::.is _::.is _::[]) (by kernel_rfl) (by kernel_rfl) (by kernel_rfl) (by kernel_rfl) rfl ?main
  case main =>
   iterate 2
    apply obs_step
    · rfl
    ·intro w4 hE4 hk
     clear hk hE4
     go_wp2
     refine post_eq ?_ (Below.refl _ _)
     simp only [Act.put,sA,sB,sC]
     try rfl
    ·simp only [Act.put,sA,sB,sC]
     rfl
   apply obs_step
   · rfl
   ·intro w4 hE4 hk
    obtain ⟨c1,c2,c3,c4,c5,c6,c7,c8,c9,c10⟩:=BX.out w4 hE4
    clear hk hE4
    go_wp2
    refine post_eq ?_ (Below.refl _ _)
    simp only [Act.put,sA,sB,sC]
    try rfl
   ·simp only [Act.put,sA,sB,sC]
    rfl
   apply obs_step
   · rfl
   ·intro w4 hE4 hk
    clear hk hE4
    go_wp2_with fail
    refine (F4.out _).mono ?_
    rintro e w5 ⟨rfl,hb5⟩
    go_wp2
    refine post_eq ?_ (hb5)
    simp only [Act.put,sA,sB,sC]
    try rfl
   iterate 2
    ·simp only [Act.put,sA,sB,sC]
     rfl
    apply obs_step
    · rfl
    ·intro w4 hE4 hk
     clear hk hE4
     go_wp2
     refine post_eq ?_ (Below.refl _ _)
     simp only [Act.put,sA,sB,sC]
     try rfl
   ·simp only [Act.put,sA,sB,sC]
    rfl
   apply obs_step
   · rfl
   ·intro w4 hE4 hk
    obtain ⟨c1,c2,c3,c4,c5,c6,c7,c8,c9,c10⟩:=BX.out w4 hE4
    clear hk hE4
    go_wp2
    refine post_eq ?_ (Below.refl _ _)
    simp only [Act.put,sA,sB,sC]
    try rfl
   ·simp only [Act.put,sA,sB,sC]
    rfl
   apply obs_step
   · rfl
   ·intro w4 hE4 hk
    clear hk hE4
    go_wp2_with fail
    refine (F5.out _).mono ?_
    rintro e w5 ⟨rfl,hb5⟩
    go_wp2
    refine post_eq ?_ (hb5)
    simp only [Act.put,sA,sB,sC]
    try rfl
   iterate 4
    ·simp only [Act.put,sA,sB,sC]
     rfl
    apply obs_step
    · rfl
    ·intro w4 hE4 hk
     clear hk hE4
     go_wp2
     refine post_eq ?_ (Below.refl _ _)
     simp only [Act.put,sA,sB,sC]
     try rfl
   iterate 2
    ·simp only [Act.put,sA,sB,sC]
     rfl
    apply obs_step
    · rfl
    ·intro w4 hE4 hk
     obtain ⟨c1,c2,c3,c4,c5,c6,c7,c8,c9,c10⟩:=BX.out w4 hE4
     clear hk hE4
     go_wp2
     refine post_eq ?_ (Below.refl _ _)
     simp only [Act.put,sA,sB,sC]
     try rfl
    iterate 2
     ·simp only [Act.put,sA,sB,sC]
      rfl
     apply obs_step
     · rfl
     ·intro w4 hE4 hk
      clear hk hE4
      go_wp2
      refine post_eq ?_ (Below.refl _ _)
      simp only [Act.put,sA,sB,sC]
      try rfl
   ·simp only [Act.put,sA,sB,sC]
    rfl
   refine obs_end fun w6 hE6 _=>?_
   have hE7:=((Below.refl WW.heap.size WW).drew).trans hE6
   have P6:=Lib.hid (PP.out.keep hE7 PP.out.lt)
   have L6:=Lib.hid (LL.out.keep hE7)
   have B6:=Lib.hid (below2 HB.out hE7)
   clear PP LL HB BX hE6 hE7
   have PP:=P6
   have LL:=L6
   have HB:=B6
   clear P6 L6 B6
   go_wp2
   go_ret
   exact ⟨rfl,HB.out⟩
set_option maxRecDepth 100000 in
set_option maxHeartbeats 16000000 in
theorem refPrint_2 {w:World} {v:Value} {r:Rc} (hv:IsRec w v r) (hs:r.before.size≤16∧r.after.size≤16) (hk:r.kind=2) :
 Calls Tryz.prog 41 #[v] w fun e w'=>e=.returned (.string (strS 2++strI r.txn++strI r.prev++strI r.next++(strS r.page++strS r.off++strS (r.after.size:Int))++r.after))∧Below w.heap.size w w':=by
 obtain ⟨vt,vp,rfl,hl⟩:=hv
 obtain ⟨z1,z2⟩:=hs
 obtain ⟨ta,tc,hvt⟩:=hl.t.form
 obtain ⟨pa,pc,hvp⟩:=hl.p.form
 have VT:=Lib.hid hvt
 have VP:=Lib.hid hvp
 have hlt:=hl.t.le
 have hlp:=hl.p.le
 unfold maxLen at hlt hlp
 clear hvt hvp
 have hb0:Below w.heap.size w (w.alloc (.cells (recCells r vt vp) 46)):=(Below.refl _ _).alloc (Nat.le_refl _) _
 have LL:=Lib.hid (hl.keep hb0)
 have HB:=Lib.hid hb0
 have PP:=Lib.hid (Blk.new w 46 (recCells r vt vp))
 have one:=hl.one
 clear hl hb0
 have E0:(recCells r vt vp)[0]? = some (.int .i64 2):=by rw [← hk]; rfl
 have E1:(recCells r vt vp)[1]? = some (.int .i64 r.txn):=rfl
 have E2:(recCells r vt vp)[2]? = some (.int .i64 r.page):=rfl
 have E3:(recCells r vt vp)[3]? = some (.int .i64 r.off):=rfl
 have E4:(recCells r vt vp)[4]? = some (.int .i64 r.prev):=rfl
 have E5:(recCells r vt vp)[5]? = some (.int .i64 r.next):=rfl
 have E6:(recCells r vt vp)[6]? = some (.int .i64 r.beg):=rfl
 have E7:(recCells r vt vp)[7]? = some (.string r.before):=rfl
 have E8:(recCells r vt vp)[8]? = some (.string r.after):=rfl
 have E9:(recCells r vt vp)[9]? = some (.slice ta r.txns.length tc):=by rw [← VT.out]; rfl
 have E10:(recCells r vt vp)[10]? = some (.slice pa r.pages.length pc):=by rw [← VP.out]; rfl
 clear hk
 have F0:=Lib.hid (fun W=>smallS_any 2 W)
 have F1:=Lib.hid (fun W=>smallS_any r.page W)
 have F2:=Lib.hid (fun W=>smallS_any r.off W)
 have F3:=Lib.hid (fun W=>smallS_any (r.after.size:Int) W)
 have F4:=Lib.hid (fun W=>fourI_any r.txn W)
 have F5:=Lib.hid (fun W=>fourI_any r.prev W)
 have F6:=Lib.hid (fun W=>fourI_any r.next W)
 have F7:=Lib.hid (fun W=>fourI_any r.beg W)
 have y0:=strS_size 2
 have y1:=strS_size r.page
 have y2:=strS_size r.off
 have y3:=strS_size (r.after.size:Int)
 have y4:=strI_size r.txn
 have y5:=strI_size r.prev
 have y6:=strI_size r.next
 have y7:=strI_size r.beg
 generalize strS 2=s0 at *
 generalize strS r.page=s1 at *
 generalize strS r.off=s2 at *
 generalize strS (r.after.size:Int)=s3 at *
 generalize strI r.txn=s4 at *
 generalize strI r.prev=s5 at *
 generalize strI r.next=s6 at *
 generalize strI r.beg=s7 at *
 have a1:∀ W,(Op.stringOp .add s1 s2).run Tryz.prog W=.ok (.string (s1++s2)) W:=fun W=>run_string_add_sum W _ _ (by omega)
 have a2:∀ W,(Op.stringOp .add (s1++s2) s3).run Tryz.prog W=.ok (.string (s1++s2++s3)) W:=fun W=>run_string_add_sum W _ _ (by simp only [ByteArray.size_append]; omega)
 have a3:∀ W,(Op.stringOp .add (s0) (s4)).run Tryz.prog W=.ok (.string ((s0)++(s4))) W:=fun W=>run_string_add_sum W _ _ (by first | omega | (simp only [ByteArray.size_append]; omega))
 have a4:∀ W,(Op.stringOp .add (s0++s4) (s5)).run Tryz.prog W=.ok (.string ((s0++s4)++(s5))) W:=fun W=>run_string_add_sum W _ _ (by first | omega | (simp only [ByteArray.size_append]; omega))
 have a5:∀ W,(Op.stringOp .add (s0++s4++s5) (s6)).run Tryz.prog W=.ok (.string ((s0++s4++s5)++(s6))) W:=fun W=>run_string_add_sum W _ _ (by first | omega | (simp only [ByteArray.size_append]; omega))
 have a6:∀ W,(Op.stringOp .add (s0++s4++s5++s6) (s1++s2++s3)).run Tryz.prog W=.ok (.string ((s0++s4++s5++s6)++(s1++s2++s3))) W:=fun W=>run_string_add_sum W _ _ (by first | omega | (simp only [ByteArray.size_append]; omega))
 have a7:∀ W,(Op.stringOp .add (s0++s4++s5++s6++(s1++s2++s3)) (r.after)).run Tryz.prog W=.ok (.string ((s0++s4++s5++s6++(s1++s2++s3))++(r.after))) W:=fun W=>run_string_add_sum W _ _ (by first | omega | (simp only [ByteArray.size_append]; omega))
 unfold recV
 go_enter Tryz.func41,Tryz.ntmps41
 go_upto_region 1 with fail
 generalize (w.alloc (.cells (recCells r vt vp) 46))=W1 at *
 have c0:=(PP.out.cell 0).trans E0
 go_wp2_with fail
 refine (F0.out _).mono ?_
 rintro e WW ⟨rfl,hb⟩
 have P6:=Lib.hid (PP.out.keep hb PP.out.lt)
 have L6:=Lib.hid (LL.out.keep hb)
 have B6:=Lib.hid (below2 HB.out hb)
 clear PP LL HB hb c0
 have PP:=P6
 have LL:=L6
 have HB:=B6
 clear P6 L6 B6
 have BX:=Lib.hid (show ∀ W,Below WW.drew.heap.size WW.drew W→W.cell? ⟨w.heap.size,1,none⟩=some (.int .i64 r.txn)∧W.cell? ⟨w.heap.size,2,none⟩=some (.int .i64 r.page)∧W.cell? ⟨w.heap.size,3,none⟩=some (.int .i64 r.off)∧W.cell? ⟨w.heap.size,4,none⟩=some (.int .i64 r.prev)∧W.cell? ⟨w.heap.size,5,none⟩=some (.int .i64 r.next)∧W.cell? ⟨w.heap.size,6,none⟩=some (.int .i64 r.beg)∧W.cell? ⟨w.heap.size,7,none⟩=some (.string r.before)∧W.cell? ⟨w.heap.size,8,none⟩=some (.string r.after)∧W.cell? ⟨w.heap.size,9,none⟩=some (.slice ta r.txns.length tc)∧W.cell? ⟨w.heap.size,10,none⟩=some (.slice pa r.pages.length pc) from
  fun W h=>have Q:=PP.out.drew.keep h PP.out.lt; ⟨(Q.cell 1).trans E1,(Q.cell 2).trans E2,(Q.cell 3).trans E3,(Q.cell 4).trans E4,(Q.cell 5).trans E5,(Q.cell 6).trans E6,(Q.cell 7).trans E7,(Q.cell 8).trans E8,(Q.cell 9).trans E9,(Q.cell 10).trans E10⟩)
 go_wp2_with fail
 refine' wp_region_conf 13 (.is _::.is _::.is _::.is _::.is _::.is _::.is _::.is _::.is _::.is _::.is _::.is _::.is _::[]) (by kernel_rfl) (by kernel_rfl) (by kernel_rfl) (by kernel_rfl) rfl ?main
 case main =>
  apply obs_step
  · rfl
  ·intro w4 hE4 hk
   clear hk hE4
   go_wp2
   refine post_eq ?_ (Below.refl _ _)
   simp only [Act.put,sA,sB,sC]
   try rfl
  ·simp only [Act.put,sA,sB,sC]
   rfl
  apply obs_step
  · rfl
  ·intro w4 hE4 hk
   obtain ⟨c1,c2,c3,c4,c5,c6,c7,c8,c9,c10⟩:=BX.out w4 hE4
   clear hk hE4
   go_wp2
   refine post_eq ?_ (Below.refl _ _)
   simp only [Act.put,sA,sB,sC]
   try rfl
  ·simp only [Act.put,sA,sB,sC]
   rfl
  apply obs_step
  · rfl
  ·intro w4 hE4 hk
   clear hk hE4
   go_wp2_with fail
   refine (F1.out _).mono ?_
   rintro e w5 ⟨rfl,hb5⟩
   go_wp2
   refine post_eq ?_ (hb5)
   simp only [Act.put,sA,sB,sC]
   try rfl
  ·simp only [Act.put,sA,sB,sC]
   rfl
  apply obs_step
  · rfl
  ·intro w4 hE4 hk
   clear hk hE4
   go_wp2
   refine post_eq ?_ (Below.refl _ _)
   simp only [Act.put,sA,sB,sC]
   try rfl
  ·simp only [Act.put,sA,sB,sC]
   rfl
  apply obs_step
  · rfl
  ·intro w4 hE4 hk
   obtain ⟨c1,c2,c3,c4,c5,c6,c7,c8,c9,c10⟩:=BX.out w4 hE4
   clear hk hE4
   go_wp2
   refine post_eq ?_ (Below.refl _ _)
   simp only [Act.put,sA,sB,sC]
   try rfl
  ·simp only [Act.put,sA,sB,sC]
   rfl
  apply obs_step
  · rfl
  ·intro w4 hE4 hk
   clear hk hE4
   go_wp2_with fail
   refine (F2.out _).mono ?_
   rintro e w5 ⟨rfl,hb5⟩
   go_wp2
   refine post_eq ?_ (hb5)
   simp only [Act.put,sA,sB,sC]
   try rfl
  iterate 2
   ·simp only [Act.put,sA,sB,sC]
    rfl
   apply obs_step
   · rfl
   ·intro w4 hE4 hk
    clear hk hE4
    go_wp2
    refine post_eq ?_ (Below.refl _ _)
    simp only [Act.put,sA,sB,sC]
    try rfl
  ·simp only [Act.put,sA,sB,sC]
   rfl
  apply obs_step
  · rfl
  ·intro w4 hE4 hk
   obtain ⟨c1,c2,c3,c4,c5,c6,c7,c8,c9,c10⟩:=BX.out w4 hE4
   clear hk hE4
   go_wp2
   refine post_eq ?_ (Below.refl _ _)
   simp only [Act.put,sA,sB,sC]
   try rfl
  ·simp only [Act.put,sA,sB,sC]
   rfl
  apply obs_step
  · rfl
  ·intro w4 hE4 hk
   clear hk hE4
   go_wp2
   refine post_eq ?_ (Below.refl _ _)
   simp only [Act.put,sA,sB,sC]
   try rfl
  ·simp only [Act.put,sA,sB,sC]
   rfl
  apply obs_step
  · rfl
  ·intro w4 hE4 hk
   clear hk hE4
   go_wp2_with fail
   refine (F3.out _).mono ?_
   rintro e w5 ⟨rfl,hb5⟩
   go_wp2
   refine post_eq ?_ (hb5)
   simp only [Act.put,sA,sB,sC]
   try rfl
  iterate 2
   ·simp only [Act.put,sA,sB,sC]
    rfl
   apply obs_step
   · rfl
   ·intro w4 hE4 hk
    clear hk hE4
    go_wp2
    refine post_eq ?_ (Below.refl _ _)
    simp only [Act.put,sA,sB,sC]
    try rfl
  ·simp only [Act.put,sA,sB,sC]
   rfl
  refine obs_end fun w6 hE6 _=>?_
  have hE7:=((Below.refl WW.heap.size WW).drew).trans hE6
  have P6:=Lib.hid (PP.out.keep hE7 PP.out.lt)
  have L6:=Lib.hid (LL.out.keep hE7)
  have B6:=Lib.hid (below2 HB.out hE7)
  clear PP LL HB BX hE6 hE7
  have PP:=P6
  have LL:=L6
  have HB:=B6
  clear P6 L6 B6
  have c0:=(PP.out.cell 0).trans E0
  clear a1 a2 F0 F1 F2 F3 WW
  generalize w6=WW at *
  go_wp2_with fail
  have BX:=Lib.hid (show ∀ W,Below WW.drew.heap.size WW.drew W→W.cell? ⟨w.heap.size,1,none⟩=some (.int .i64 r.txn)∧W.cell? ⟨w.heap.size,2,none⟩=some (.int .i64 r.page)∧W.cell? ⟨w.heap.size,3,none⟩=some (.int .i64 r.off)∧W.cell? ⟨w.heap.size,4,none⟩=some (.int .i64 r.prev)∧W.cell? ⟨w.heap.size,5,none⟩=some (.int .i64 r.next)∧W.cell? ⟨w.heap.size,6,none⟩=some (.int .i64 r.beg)∧W.cell? ⟨w.heap.size,7,none⟩=some (.string r.before)∧W.cell? ⟨w.heap.size,8,none⟩=some (.string r.after)∧W.cell? ⟨w.heap.size,9,none⟩=some (.slice ta r.txns.length tc)∧W.cell? ⟨w.heap.size,10,none⟩=some (.slice pa r.pages.length pc) from
   fun W h=>have Q:=PP.out.drew.keep h PP.out.lt; ⟨(Q.cell 1).trans E1,(Q.cell 2).trans E2,(Q.cell 3).trans E3,(Q.cell 4).trans E4,(Q.cell 5).trans E5,(Q.cell 6).trans E6,(Q.cell 7).trans E7,(Q.cell 8).trans E8,(Q.cell 9).trans E9,(Q.cell 10).trans E10⟩)
  clear c0
  refine' wp_region_conf 19 (.is _::.is _::.is _::.is _::.is _::.is _::.is _::.is _::.is _::.is _::.is _::.is _::.is _::.is _::.is _::.is _::.is _::.is _::.is _::[]) (by kernel_rfl) (by kernel_rfl) (by kernel_rfl) (by kernel_rfl) rfl ?main
  case main =>
   iterate 2
    apply obs_step
    · rfl
    ·intro w4 hE4 hk
     clear hk hE4
     go_wp2
     refine post_eq ?_ (Below.refl _ _)
     simp only [Act.put,sA,sB,sC]
     try rfl
    ·simp only [Act.put,sA,sB,sC]
     rfl
   apply obs_step
   · rfl
   ·intro w4 hE4 hk
    obtain ⟨c1,c2,c3,c4,c5,c6,c7,c8,c9,c10⟩:=BX.out w4 hE4
    clear hk hE4
    go_wp2
    refine post_eq ?_ (Below.refl _ _)
    simp only [Act.put,sA,sB,sC]
    try rfl
   ·simp only [Act.put,sA,sB,sC]
    rfl
   apply obs_step
   · rfl
   ·intro w4 hE4 hk
    clear hk hE4
    go_wp2_with fail
    refine (F4.out _).mono ?_
    rintro e w5 ⟨rfl,hb5⟩
    go_wp2
    refine post_eq ?_ (hb5)
    simp only [Act.put,sA,sB,sC]
    try rfl
   iterate 2
    ·simp only [Act.put,sA,sB,sC]
     rfl
    apply obs_step
    · rfl
    ·intro w4 hE4 hk
     clear hk hE4
     go_wp2
     refine post_eq ?_ (Below.refl _ _)
     simp only [Act.put,sA,sB,sC]
     try rfl
   ·simp only [Act.put,sA,sB,sC]
    rfl
   apply obs_step
   · rfl
   ·intro w4 hE4 hk
    obtain ⟨c1,c2,c3,c4,c5,c6,c7,c8,c9,c10⟩:=BX.out w4 hE4
    clear hk hE4
    go_wp2
    refine post_eq ?_ (Below.refl _ _)
    simp only [Act.put,sA,sB,sC]
    try rfl
   ·simp only [Act.put,sA,sB,sC]
    rfl
   apply obs_step
   · rfl
   ·intro w4 hE4 hk
    clear hk hE4
    go_wp2_with fail
    refine (F5.out _).mono ?_
    rintro e w5 ⟨rfl,hb5⟩
    go_wp2
    refine post_eq ?_ (hb5)
    simp only [Act.put,sA,sB,sC]
    try rfl
   iterate 2
    ·simp only [Act.put,sA,sB,sC]
     rfl
    apply obs_step
    · rfl
    ·intro w4 hE4 hk
     clear hk hE4
     go_wp2
     refine post_eq ?_ (Below.refl _ _)
     simp only [Act.put,sA,sB,sC]
     try rfl
   ·simp only [Act.put,sA,sB,sC]
    rfl
   apply obs_step
   · rfl
   ·intro w4 hE4 hk
    obtain ⟨c1,c2,c3,c4,c5,c6,c7,c8,c9,c10⟩:=BX.out w4 hE4
    clear hk hE4
    go_wp2
    refine post_eq ?_ (Below.refl _ _)
    simp only [Act.put,sA,sB,sC]
    try rfl
   ·simp only [Act.put,sA,sB,sC]
    rfl
   apply obs_step
   · rfl
   ·intro w4 hE4 hk
    clear hk hE4
    go_wp2_with fail
    refine (F6.out _).mono ?_
    rintro e w5 ⟨rfl,hb5⟩
    go_wp2
    refine post_eq ?_ (hb5)
    simp only [Act.put,sA,sB,sC]
    try rfl
   iterate 4
    ·simp only [Act.put,sA,sB,sC]
     rfl
    apply obs_step
    · rfl
    ·intro w4 hE4 hk
     clear hk hE4
     go_wp2
     refine post_eq ?_ (Below.refl _ _)
     simp only [Act.put,sA,sB,sC]
     try rfl
   ·simp only [Act.put,sA,sB,sC]
    rfl
   apply obs_step
   · rfl
   ·intro w4 hE4 hk
    obtain ⟨c1,c2,c3,c4,c5,c6,c7,c8,c9,c10⟩:=BX.out w4 hE4
    clear hk hE4
    go_wp2
    refine post_eq ?_ (Below.refl _ _)
    simp only [Act.put,sA,sB,sC]
    try rfl
   iterate 2
    ·simp only [Act.put,sA,sB,sC]
     rfl
    apply obs_step
    · rfl
    ·intro w4 hE4 hk
     clear hk hE4
     go_wp2
     refine post_eq ?_ (Below.refl _ _)
     simp only [Act.put,sA,sB,sC]
     try rfl
   ·simp only [Act.put,sA,sB,sC]
    rfl
   refine obs_end fun w6 hE6 _=>?_
   have hE7:=((Below.refl WW.heap.size WW).drew).trans hE6
   have P6:=Lib.hid (PP.out.keep hE7 PP.out.lt)
   have L6:=Lib.hid (LL.out.keep hE7)
   have B6:=Lib.hid (below2 HB.out hE7)
   clear PP LL HB BX hE6 hE7
   have PP:=P6
   have LL:=L6
   have HB:=B6
   clear P6 L6 B6
   go_wp2
   go_ret
   exact ⟨rfl,HB.out⟩
set_option maxRecDepth 100000 in
set_option maxHeartbeats 16000000 in
theorem refPrint_3 {w:World} {v:Value} {r:Rc} (hv:IsRec w v r) (hs:r.before.size≤16∧r.after.size≤16) (hk:r.kind=3) :
 Calls Tryz.prog 41 #[v] w fun e w'=>e=.returned (.string (strS 3++strI r.txn++strI r.prev))∧Below w.heap.size w w':=by
 obtain ⟨vt,vp,rfl,hl⟩:=hv
 obtain ⟨z1,z2⟩:=hs
 obtain ⟨ta,tc,hvt⟩:=hl.t.form
 obtain ⟨pa,pc,hvp⟩:=hl.p.form
 have VT:=Lib.hid hvt
 have VP:=Lib.hid hvp
 have hlt:=hl.t.le
 have hlp:=hl.p.le
 unfold maxLen at hlt hlp
 clear hvt hvp
 have hb0:Below w.heap.size w (w.alloc (.cells (recCells r vt vp) 46)):=(Below.refl _ _).alloc (Nat.le_refl _) _
 have LL:=Lib.hid (hl.keep hb0)
 have HB:=Lib.hid hb0
 have PP:=Lib.hid (Blk.new w 46 (recCells r vt vp))
 have one:=hl.one
 clear hl hb0
 have E0:(recCells r vt vp)[0]? = some (.int .i64 3):=by rw [← hk]; rfl
 have E1:(recCells r vt vp)[1]? = some (.int .i64 r.txn):=rfl
 have E2:(recCells r vt vp)[2]? = some (.int .i64 r.page):=rfl
 have E3:(recCells r vt vp)[3]? = some (.int .i64 r.off):=rfl
 have E4:(recCells r vt vp)[4]? = some (.int .i64 r.prev):=rfl
 have E5:(recCells r vt vp)[5]? = some (.int .i64 r.next):=rfl
 have E6:(recCells r vt vp)[6]? = some (.int .i64 r.beg):=rfl
 have E7:(recCells r vt vp)[7]? = some (.string r.before):=rfl
 have E8:(recCells r vt vp)[8]? = some (.string r.after):=rfl
 have E9:(recCells r vt vp)[9]? = some (.slice ta r.txns.length tc):=by rw [← VT.out]; rfl
 have E10:(recCells r vt vp)[10]? = some (.slice pa r.pages.length pc):=by rw [← VP.out]; rfl
 clear hk
 have F0:=Lib.hid (fun W=>smallS_any 3 W)
 have F1:=Lib.hid (fun W=>smallS_any r.page W)
 have F2:=Lib.hid (fun W=>smallS_any r.off W)
 have F3:=Lib.hid (fun W=>smallS_any (r.after.size:Int) W)
 have F4:=Lib.hid (fun W=>fourI_any r.txn W)
 have F5:=Lib.hid (fun W=>fourI_any r.prev W)
 have F6:=Lib.hid (fun W=>fourI_any r.next W)
 have F7:=Lib.hid (fun W=>fourI_any r.beg W)
 have y0:=strS_size 3
 have y1:=strS_size r.page
 have y2:=strS_size r.off
 have y3:=strS_size (r.after.size:Int)
 have y4:=strI_size r.txn
 have y5:=strI_size r.prev
 have y6:=strI_size r.next
 have y7:=strI_size r.beg
 generalize strS 3=s0 at *
 generalize strS r.page=s1 at *
 generalize strS r.off=s2 at *
 generalize strS (r.after.size:Int)=s3 at *
 generalize strI r.txn=s4 at *
 generalize strI r.prev=s5 at *
 generalize strI r.next=s6 at *
 generalize strI r.beg=s7 at *
 have a1:∀ W,(Op.stringOp .add s1 s2).run Tryz.prog W=.ok (.string (s1++s2)) W:=fun W=>run_string_add_sum W _ _ (by omega)
 have a2:∀ W,(Op.stringOp .add (s1++s2) s3).run Tryz.prog W=.ok (.string (s1++s2++s3)) W:=fun W=>run_string_add_sum W _ _ (by simp only [ByteArray.size_append]; omega)
 have a3:∀ W,(Op.stringOp .add (s0) (s4)).run Tryz.prog W=.ok (.string ((s0)++(s4))) W:=fun W=>run_string_add_sum W _ _ (by first | omega | (simp only [ByteArray.size_append]; omega))
 have a4:∀ W,(Op.stringOp .add (s0++s4) (s5)).run Tryz.prog W=.ok (.string ((s0++s4)++(s5))) W:=fun W=>run_string_add_sum W _ _ (by first | omega | (simp only [ByteArray.size_append]; omega))
 unfold recV
 go_enter Tryz.func41,Tryz.ntmps41
 go_upto_region 1 with fail
 generalize (w.alloc (.cells (recCells r vt vp) 46))=W1 at *
 have c0:=(PP.out.cell 0).trans E0
 go_wp2_with fail
 refine (F0.out _).mono ?_
 rintro e WW ⟨rfl,hb⟩
 have P6:=Lib.hid (PP.out.keep hb PP.out.lt)
 have L6:=Lib.hid (LL.out.keep hb)
 have B6:=Lib.hid (below2 HB.out hb)
 clear PP LL HB hb c0
 have PP:=P6
 have LL:=L6
 have HB:=B6
 clear P6 L6 B6
 have BX:=Lib.hid (show ∀ W,Below WW.drew.heap.size WW.drew W→W.cell? ⟨w.heap.size,1,none⟩=some (.int .i64 r.txn)∧W.cell? ⟨w.heap.size,2,none⟩=some (.int .i64 r.page)∧W.cell? ⟨w.heap.size,3,none⟩=some (.int .i64 r.off)∧W.cell? ⟨w.heap.size,4,none⟩=some (.int .i64 r.prev)∧W.cell? ⟨w.heap.size,5,none⟩=some (.int .i64 r.next)∧W.cell? ⟨w.heap.size,6,none⟩=some (.int .i64 r.beg)∧W.cell? ⟨w.heap.size,7,none⟩=some (.string r.before)∧W.cell? ⟨w.heap.size,8,none⟩=some (.string r.after)∧W.cell? ⟨w.heap.size,9,none⟩=some (.slice ta r.txns.length tc)∧W.cell? ⟨w.heap.size,10,none⟩=some (.slice pa r.pages.length pc) from
  fun W h=>have Q:=PP.out.drew.keep h PP.out.lt; ⟨(Q.cell 1).trans E1,(Q.cell 2).trans E2,(Q.cell 3).trans E3,(Q.cell 4).trans E4,(Q.cell 5).trans E5,(Q.cell 6).trans E6,(Q.cell 7).trans E7,(Q.cell 8).trans E8,(Q.cell 9).trans E9,(Q.cell 10).trans E10⟩)
 go_wp2_with fail
 refine' wp_region_conf 13 (.is _::.is _::.is _::.is _::.is _::.is _::.is _::.is _::.is _::.is _::.is _::.is _::.is _::[]) (by kernel_rfl) (by kernel_rfl) (by kernel_rfl) (by kernel_rfl) rfl ?main
 case main =>
  apply obs_step
  · rfl
  ·intro w4 hE4 hk
   clear hk hE4
   go_wp2
   refine post_eq ?_ (Below.refl _ _)
   simp only [Act.put,sA,sB,sC]
   try rfl
  ·simp only [Act.put,sA,sB,sC]
   rfl
  apply obs_step
  · rfl
  ·intro w4 hE4 hk
   obtain ⟨c1,c2,c3,c4,c5,c6,c7,c8,c9,c10⟩:=BX.out w4 hE4
   clear hk hE4
   go_wp2
   refine post_eq ?_ (Below.refl _ _)
   simp only [Act.put,sA,sB,sC]
   try rfl
  ·simp only [Act.put,sA,sB,sC]
   rfl
  apply obs_step
  · rfl
  ·intro w4 hE4 hk
   clear hk hE4
   go_wp2_with fail
   refine (F1.out _).mono ?_
   rintro e w5 ⟨rfl,hb5⟩
   go_wp2
   refine post_eq ?_ (hb5)
   simp only [Act.put,sA,sB,sC]
   try rfl
  ·simp only [Act.put,sA,sB,sC]
   rfl
  apply obs_step
  · rfl
  ·intro w4 hE4 hk
   clear hk hE4
   go_wp2
   refine post_eq ?_ (Below.refl _ _)
   simp only [Act.put,sA,sB,sC]
   try rfl
  ·simp only [Act.put,sA,sB,sC]
   rfl
  apply obs_step
  · rfl
  ·intro w4 hE4 hk
   obtain ⟨c1,c2,c3,c4,c5,c6,c7,c8,c9,c10⟩:=BX.out w4 hE4
   clear hk hE4
   go_wp2
   refine post_eq ?_ (Below.refl _ _)
   simp only [Act.put,sA,sB,sC]
   try rfl
  ·simp only [Act.put,sA,sB,sC]
   rfl
  apply obs_step
  · rfl
  ·intro w4 hE4 hk
   clear hk hE4
   go_wp2_with fail
   refine (F2.out _).mono ?_
   rintro e w5 ⟨rfl,hb5⟩
   go_wp2
   refine post_eq ?_ (hb5)
   simp only [Act.put,sA,sB,sC]
   try rfl
  iterate 2
   ·simp only [Act.put,sA,sB,sC]
    rfl
   apply obs_step
   · rfl
   ·intro w4 hE4 hk
    clear hk hE4
    go_wp2
    refine post_eq ?_ (Below.refl _ _)
    simp only [Act.put,sA,sB,sC]
    try rfl
  ·simp only [Act.put,sA,sB,sC]
   rfl
  apply obs_step
  · rfl
  ·intro w4 hE4 hk
   obtain ⟨c1,c2,c3,c4,c5,c6,c7,c8,c9,c10⟩:=BX.out w4 hE4
   clear hk hE4
   go_wp2
   refine post_eq ?_ (Below.refl _ _)
   simp only [Act.put,sA,sB,sC]
   try rfl
  ·simp only [Act.put,sA,sB,sC]
   rfl
  apply obs_step
  · rfl
  ·intro w4 hE4 hk
   clear hk hE4
   go_wp2
   refine post_eq ?_ (Below.refl _ _)
   simp only [Act.put,sA,sB,sC]
   try rfl
  ·simp only [Act.put,sA,sB,sC]
   rfl
  apply obs_step
  · rfl
  ·intro w4 hE4 hk
   clear hk hE4
   go_wp2_with fail
   refine (F3.out _).mono ?_
   rintro e w5 ⟨rfl,hb5⟩
   go_wp2
   refine post_eq ?_ (hb5)
   simp only [Act.put,sA,sB,sC]
   try rfl
  iterate 2
   ·simp only [Act.put,sA,sB,sC]
    rfl
   apply obs_step
   · rfl
   ·intro w4 hE4 hk
    clear hk hE4
    go_wp2
    refine post_eq ?_ (Below.refl _ _)
    simp only [Act.put,sA,sB,sC]
    try rfl
  ·simp only [Act.put,sA,sB,sC]
   rfl
  refine obs_end fun w6 hE6 _=>?_
  have hE7:=((Below.refl WW.heap.size WW).drew).trans hE6
  have P6:=Lib.hid (PP.out.keep hE7 PP.out.lt)
  have L6:=Lib.hid (LL.out.keep hE7)
  have B6:=Lib.hid (below2 HB.out hE7)
  clear PP LL HB BX hE6 hE7
  have PP:=P6
  have LL:=L6
  have HB:=B6
  clear P6 L6 B6
  have c0:=(PP.out.cell 0).trans E0
  clear a1 a2 F0 F1 F2 F3 WW
  generalize w6=WW at *
  go_wp2_with fail
  have BX:=Lib.hid (show ∀ W,Below WW.drew.heap.size WW.drew W→W.cell? ⟨w.heap.size,1,none⟩=some (.int .i64 r.txn)∧W.cell? ⟨w.heap.size,2,none⟩=some (.int .i64 r.page)∧W.cell? ⟨w.heap.size,3,none⟩=some (.int .i64 r.off)∧W.cell? ⟨w.heap.size,4,none⟩=some (.int .i64 r.prev)∧W.cell? ⟨w.heap.size,5,none⟩=some (.int .i64 r.next)∧W.cell? ⟨w.heap.size,6,none⟩=some (.int .i64 r.beg)∧W.cell? ⟨w.heap.size,7,none⟩=some (.string r.before)∧W.cell? ⟨w.heap.size,8,none⟩=some (.string r.after)∧W.cell? ⟨w.heap.size,9,none⟩=some (.slice ta r.txns.length tc)∧W.cell? ⟨w.heap.size,10,none⟩=some (.slice pa r.pages.length pc) from
   fun W h=>have Q:=PP.out.drew.keep h PP.out.lt; ⟨(Q.cell 1).trans E1,(Q.cell 2).trans E2,(Q.cell 3).trans E3,(Q.cell 4).trans E4,(Q.cell 5).trans E5,(Q.cell 6).trans E6,(Q.cell 7).trans E7,(Q.cell 8).trans E8,(Q.cell 9).trans E9,(Q.cell 10).trans E10⟩)
  clear c0
  refine' wp_region_conf 10 (.is _::.is _::.is _::.is _::.is _::.is _::.is _::.is _::.is _::.is _::[]) (by kernel_rfl) (by kernel_rfl) (by kernel_rfl) (by kernel_rfl) rfl ?main
  case main =>
   iterate 2
    apply obs_step
    · rfl
    ·intro w4 hE4 hk
     clear hk hE4
     go_wp2
     refine post_eq ?_ (Below.refl _ _)
     simp only [Act.put,sA,sB,sC]
     try rfl
    ·simp only [Act.put,sA,sB,sC]
     rfl
   apply obs_step
   · rfl
   ·intro w4 hE4 hk
    obtain ⟨c1,c2,c3,c4,c5,c6,c7,c8,c9,c10⟩:=BX.out w4 hE4
    clear hk hE4
    go_wp2
    refine post_eq ?_ (Below.refl _ _)
    simp only [Act.put,sA,sB,sC]
    try rfl
   ·simp only [Act.put,sA,sB,sC]
    rfl
   apply obs_step
   · rfl
   ·intro w4 hE4 hk
    clear hk hE4
    go_wp2_with fail
    refine (F4.out _).mono ?_
    rintro e w5 ⟨rfl,hb5⟩
    go_wp2
    refine post_eq ?_ (hb5)
    simp only [Act.put,sA,sB,sC]
    try rfl
   iterate 2
    ·simp only [Act.put,sA,sB,sC]
     rfl
    apply obs_step
    · rfl
    ·intro w4 hE4 hk
     clear hk hE4
     go_wp2
     refine post_eq ?_ (Below.refl _ _)
     simp only [Act.put,sA,sB,sC]
     try rfl
   ·simp only [Act.put,sA,sB,sC]
    rfl
   apply obs_step
   · rfl
   ·intro w4 hE4 hk
    obtain ⟨c1,c2,c3,c4,c5,c6,c7,c8,c9,c10⟩:=BX.out w4 hE4
    clear hk hE4
    go_wp2
    refine post_eq ?_ (Below.refl _ _)
    simp only [Act.put,sA,sB,sC]
    try rfl
   ·simp only [Act.put,sA,sB,sC]
    rfl
   apply obs_step
   · rfl
   ·intro w4 hE4 hk
    clear hk hE4
    go_wp2_with fail
    refine (F5.out _).mono ?_
    rintro e w5 ⟨rfl,hb5⟩
    go_wp2
    refine post_eq ?_ (hb5)
    simp only [Act.put,sA,sB,sC]
    try rfl
   iterate 2
    ·simp only [Act.put,sA,sB,sC]
     rfl
    apply obs_step
    · rfl
    ·intro w4 hE4 hk
     clear hk hE4
     go_wp2
     refine post_eq ?_ (Below.refl _ _)
     simp only [Act.put,sA,sB,sC]
     try rfl
   ·simp only [Act.put,sA,sB,sC]
    rfl
   refine obs_end fun w6 hE6 _=>?_
   have hE7:=((Below.refl WW.heap.size WW).drew).trans hE6
   have P6:=Lib.hid (PP.out.keep hE7 PP.out.lt)
   have L6:=Lib.hid (LL.out.keep hE7)
   have B6:=Lib.hid (below2 HB.out hE7)
   clear PP LL HB BX hE6 hE7
   have PP:=P6
   have LL:=L6
   have HB:=B6
   clear P6 L6 B6
   go_wp2
   go_ret
   exact ⟨rfl,HB.out⟩
set_option maxRecDepth 100000 in
set_option maxHeartbeats 16000000 in
theorem refPrint_4 {w:World} {v:Value} {r:Rc} (hv:IsRec w v r) (hs:r.before.size≤16∧r.after.size≤16) (hk:r.kind=4) :
 Calls Tryz.prog 41 #[v] w fun e w'=>e=.returned (.string (strS 4++strI r.txn++strI r.prev))∧Below w.heap.size w w':=by
 obtain ⟨vt,vp,rfl,hl⟩:=hv
 obtain ⟨z1,z2⟩:=hs
 obtain ⟨ta,tc,hvt⟩:=hl.t.form
 obtain ⟨pa,pc,hvp⟩:=hl.p.form
 have VT:=Lib.hid hvt
 have VP:=Lib.hid hvp
 have hlt:=hl.t.le
 have hlp:=hl.p.le
 unfold maxLen at hlt hlp
 clear hvt hvp
 have hb0:Below w.heap.size w (w.alloc (.cells (recCells r vt vp) 46)):=(Below.refl _ _).alloc (Nat.le_refl _) _
 have LL:=Lib.hid (hl.keep hb0)
 have HB:=Lib.hid hb0
 have PP:=Lib.hid (Blk.new w 46 (recCells r vt vp))
 have one:=hl.one
 clear hl hb0
 have E0:(recCells r vt vp)[0]? = some (.int .i64 4):=by rw [← hk]; rfl
 have E1:(recCells r vt vp)[1]? = some (.int .i64 r.txn):=rfl
 have E2:(recCells r vt vp)[2]? = some (.int .i64 r.page):=rfl
 have E3:(recCells r vt vp)[3]? = some (.int .i64 r.off):=rfl
 have E4:(recCells r vt vp)[4]? = some (.int .i64 r.prev):=rfl
 have E5:(recCells r vt vp)[5]? = some (.int .i64 r.next):=rfl
 have E6:(recCells r vt vp)[6]? = some (.int .i64 r.beg):=rfl
 have E7:(recCells r vt vp)[7]? = some (.string r.before):=rfl
 have E8:(recCells r vt vp)[8]? = some (.string r.after):=rfl
 have E9:(recCells r vt vp)[9]? = some (.slice ta r.txns.length tc):=by rw [← VT.out]; rfl
 have E10:(recCells r vt vp)[10]? = some (.slice pa r.pages.length pc):=by rw [← VP.out]; rfl
 clear hk
 have F0:=Lib.hid (fun W=>smallS_any 4 W)
 have F1:=Lib.hid (fun W=>smallS_any r.page W)
 have F2:=Lib.hid (fun W=>smallS_any r.off W)
 have F3:=Lib.hid (fun W=>smallS_any (r.after.size:Int) W)
 have F4:=Lib.hid (fun W=>fourI_any r.txn W)
 have F5:=Lib.hid (fun W=>fourI_any r.prev W)
 have F6:=Lib.hid (fun W=>fourI_any r.next W)
 have F7:=Lib.hid (fun W=>fourI_any r.beg W)
 have y0:=strS_size 4
 have y1:=strS_size r.page
 have y2:=strS_size r.off
 have y3:=strS_size (r.after.size:Int)
 have y4:=strI_size r.txn
 have y5:=strI_size r.prev
 have y6:=strI_size r.next
 have y7:=strI_size r.beg
 generalize strS 4=s0 at *
 generalize strS r.page=s1 at *
 generalize strS r.off=s2 at *
 generalize strS (r.after.size:Int)=s3 at *
 generalize strI r.txn=s4 at *
 generalize strI r.prev=s5 at *
 generalize strI r.next=s6 at *
 generalize strI r.beg=s7 at *
 have a1:∀ W,(Op.stringOp .add s1 s2).run Tryz.prog W=.ok (.string (s1++s2)) W:=fun W=>run_string_add_sum W _ _ (by omega)
 have a2:∀ W,(Op.stringOp .add (s1++s2) s3).run Tryz.prog W=.ok (.string (s1++s2++s3)) W:=fun W=>run_string_add_sum W _ _ (by simp only [ByteArray.size_append]; omega)
 have a3:∀ W,(Op.stringOp .add (s0) (s4)).run Tryz.prog W=.ok (.string ((s0)++(s4))) W:=fun W=>run_string_add_sum W _ _ (by first | omega | (simp only [ByteArray.size_append]; omega))
 have a4:∀ W,(Op.stringOp .add (s0++s4) (s5)).run Tryz.prog W=.ok (.string ((s0++s4)++(s5))) W:=fun W=>run_string_add_sum W _ _ (by first | omega | (simp only [ByteArray.size_append]; omega))
 unfold recV
 go_enter Tryz.func41,Tryz.ntmps41
 go_upto_region 1 with fail
 generalize (w.alloc (.cells (recCells r vt vp) 46))=W1 at *
 have c0:=(PP.out.cell 0).trans E0
 go_wp2_with fail
 refine (F0.out _).mono ?_
 rintro e WW ⟨rfl,hb⟩
 have P6:=Lib.hid (PP.out.keep hb PP.out.lt)
 have L6:=Lib.hid (LL.out.keep hb)
 have B6:=Lib.hid (below2 HB.out hb)
 clear PP LL HB hb c0
 have PP:=P6
 have LL:=L6
 have HB:=B6
 clear P6 L6 B6
 have BX:=Lib.hid (show ∀ W,Below WW.drew.heap.size WW.drew W→W.cell? ⟨w.heap.size,1,none⟩=some (.int .i64 r.txn)∧W.cell? ⟨w.heap.size,2,none⟩=some (.int .i64 r.page)∧W.cell? ⟨w.heap.size,3,none⟩=some (.int .i64 r.off)∧W.cell? ⟨w.heap.size,4,none⟩=some (.int .i64 r.prev)∧W.cell? ⟨w.heap.size,5,none⟩=some (.int .i64 r.next)∧W.cell? ⟨w.heap.size,6,none⟩=some (.int .i64 r.beg)∧W.cell? ⟨w.heap.size,7,none⟩=some (.string r.before)∧W.cell? ⟨w.heap.size,8,none⟩=some (.string r.after)∧W.cell? ⟨w.heap.size,9,none⟩=some (.slice ta r.txns.length tc)∧W.cell? ⟨w.heap.size,10,none⟩=some (.slice pa r.pages.length pc) from
  fun W h=>have Q:=PP.out.drew.keep h PP.out.lt; ⟨(Q.cell 1).trans E1,(Q.cell 2).trans E2,(Q.cell 3).trans E3,(Q.cell 4).trans E4,(Q.cell 5).trans E5,(Q.cell 6).trans E6,(Q.cell 7).trans E7,(Q.cell 8).trans E8,(Q.cell 9).trans E9,(Q.cell 10).trans E10⟩)
 go_wp2_with fail
 refine' wp_region_conf 13 (.is _::.is _::.is _::.is _::.is _::.is _::.is _::.is _::.is _::.is _::.is _::.is _::.is _::[]) (by kernel_rfl) (by kernel_rfl) (by kernel_rfl) (by kernel_rfl) rfl ?main
 case main =>
  apply obs_step
  · rfl
  ·intro w4 hE4 hk
   clear hk hE4
   go_wp2
   refine post_eq ?_ (Below.refl _ _)
   simp only [Act.put,sA,sB,sC]
   try rfl
  ·simp only [Act.put,sA,sB,sC]
   rfl
  apply obs_step
  · rfl
  ·intro w4 hE4 hk
   obtain ⟨c1,c2,c3,c4,c5,c6,c7,c8,c9,c10⟩:=BX.out w4 hE4
   clear hk hE4
   go_wp2
   refine post_eq ?_ (Below.refl _ _)
   simp only [Act.put,sA,sB,sC]
   try rfl
  ·simp only [Act.put,sA,sB,sC]
   rfl
  apply obs_step
  · rfl
  ·intro w4 hE4 hk
   clear hk hE4
   go_wp2_with fail
   refine (F1.out _).mono ?_
   rintro e w5 ⟨rfl,hb5⟩
   go_wp2
   refine post_eq ?_ (hb5)
   simp only [Act.put,sA,sB,sC]
   try rfl
  ·simp only [Act.put,sA,sB,sC]
   rfl
  apply obs_step
  · rfl
  ·intro w4 hE4 hk
   clear hk hE4
   go_wp2
   refine post_eq ?_ (Below.refl _ _)
   simp only [Act.put,sA,sB,sC]
   try rfl
  ·simp only [Act.put,sA,sB,sC]
   rfl
  apply obs_step
  · rfl
  ·intro w4 hE4 hk
   obtain ⟨c1,c2,c3,c4,c5,c6,c7,c8,c9,c10⟩:=BX.out w4 hE4
   clear hk hE4
   go_wp2
   refine post_eq ?_ (Below.refl _ _)
   simp only [Act.put,sA,sB,sC]
   try rfl
  ·simp only [Act.put,sA,sB,sC]
   rfl
  apply obs_step
  · rfl
  ·intro w4 hE4 hk
   clear hk hE4
   go_wp2_with fail
   refine (F2.out _).mono ?_
   rintro e w5 ⟨rfl,hb5⟩
   go_wp2
   refine post_eq ?_ (hb5)
   simp only [Act.put,sA,sB,sC]
   try rfl
  iterate 2
   ·simp only [Act.put,sA,sB,sC]
    rfl
   apply obs_step
   · rfl
   ·intro w4 hE4 hk
    clear hk hE4
    go_wp2
    refine post_eq ?_ (Below.refl _ _)
    simp only [Act.put,sA,sB,sC]
    try rfl
  ·simp only [Act.put,sA,sB,sC]
   rfl
  apply obs_step
  · rfl
  ·intro w4 hE4 hk
   obtain ⟨c1,c2,c3,c4,c5,c6,c7,c8,c9,c10⟩:=BX.out w4 hE4
   clear hk hE4
   go_wp2
   refine post_eq ?_ (Below.refl _ _)
   simp only [Act.put,sA,sB,sC]
   try rfl
  ·simp only [Act.put,sA,sB,sC]
   rfl
  apply obs_step
  · rfl
  ·intro w4 hE4 hk
   clear hk hE4
   go_wp2
   refine post_eq ?_ (Below.refl _ _)
   simp only [Act.put,sA,sB,sC]
   try rfl
  ·simp only [Act.put,sA,sB,sC]
   rfl
  apply obs_step
  · rfl
  ·intro w4 hE4 hk
   clear hk hE4
   go_wp2_with fail
   refine (F3.out _).mono ?_
   rintro e w5 ⟨rfl,hb5⟩
   go_wp2
   refine post_eq ?_ (hb5)
   simp only [Act.put,sA,sB,sC]
   try rfl
  iterate 2
   ·simp only [Act.put,sA,sB,sC]
    rfl
   apply obs_step
   · rfl
   ·intro w4 hE4 hk
    clear hk hE4
    go_wp2
    refine post_eq ?_ (Below.refl _ _)
    simp only [Act.put,sA,sB,sC]
    try rfl
  ·simp only [Act.put,sA,sB,sC]
   rfl
  refine obs_end fun w6 hE6 _=>?_
  have hE7:=((Below.refl WW.heap.size WW).drew).trans hE6
  have P6:=Lib.hid (PP.out.keep hE7 PP.out.lt)
  have L6:=Lib.hid (LL.out.keep hE7)
  have B6:=Lib.hid (below2 HB.out hE7)
  clear PP LL HB BX hE6 hE7
  have PP:=P6
  have LL:=L6
  have HB:=B6
  clear P6 L6 B6
  have c0:=(PP.out.cell 0).trans E0
  clear a1 a2 F0 F1 F2 F3 WW
  generalize w6=WW at *
  go_wp2_with fail
  have BX:=Lib.hid (show ∀ W,Below WW.drew.heap.size WW.drew W→W.cell? ⟨w.heap.size,1,none⟩=some (.int .i64 r.txn)∧W.cell? ⟨w.heap.size,2,none⟩=some (.int .i64 r.page)∧W.cell? ⟨w.heap.size,3,none⟩=some (.int .i64 r.off)∧W.cell? ⟨w.heap.size,4,none⟩=some (.int .i64 r.prev)∧W.cell? ⟨w.heap.size,5,none⟩=some (.int .i64 r.next)∧W.cell? ⟨w.heap.size,6,none⟩=some (.int .i64 r.beg)∧W.cell? ⟨w.heap.size,7,none⟩=some (.string r.before)∧W.cell? ⟨w.heap.size,8,none⟩=some (.string r.after)∧W.cell? ⟨w.heap.size,9,none⟩=some (.slice ta r.txns.length tc)∧W.cell? ⟨w.heap.size,10,none⟩=some (.slice pa r.pages.length pc) from
   fun W h=>have Q:=PP.out.drew.keep h PP.out.lt; ⟨(Q.cell 1).trans E1,(Q.cell 2).trans E2,(Q.cell 3).trans E3,(Q.cell 4).trans E4,(Q.cell 5).trans E5,(Q.cell 6).trans E6,(Q.cell 7).trans E7,(Q.cell 8).trans E8,(Q.cell 9).trans E9,(Q.cell 10).trans E10⟩)
  clear c0
  refine' wp_region_conf 10 (.is _::.is _::.is _::.is _::.is _::.is _::.is _::.is _::.is _::.is _::[]) (by kernel_rfl) (by kernel_rfl) (by kernel_rfl) (by kernel_rfl) rfl ?main
  case main =>
   iterate 2
    apply obs_step
    · rfl
    ·intro w4 hE4 hk
     clear hk hE4
     go_wp2
     refine post_eq ?_ (Below.refl _ _)
     simp only [Act.put,sA,sB,sC]
     try rfl
    ·simp only [Act.put,sA,sB,sC]
     rfl
   apply obs_step
   · rfl
   ·intro w4 hE4 hk
    obtain ⟨c1,c2,c3,c4,c5,c6,c7,c8,c9,c10⟩:=BX.out w4 hE4
    clear hk hE4
    go_wp2
    refine post_eq ?_ (Below.refl _ _)
    simp only [Act.put,sA,sB,sC]
    try rfl
   ·simp only [Act.put,sA,sB,sC]
    rfl
   apply obs_step
   · rfl
   ·intro w4 hE4 hk
    clear hk hE4
    go_wp2_with fail
    refine (F4.out _).mono ?_
    rintro e w5 ⟨rfl,hb5⟩
    go_wp2
    refine post_eq ?_ (hb5)
    simp only [Act.put,sA,sB,sC]
    try rfl
   iterate 2
    ·simp only [Act.put,sA,sB,sC]
     rfl
    apply obs_step
    · rfl
    ·intro w4 hE4 hk
     clear hk hE4
     go_wp2
     refine post_eq ?_ (Below.refl _ _)
     simp only [Act.put,sA,sB,sC]
     try rfl
   ·simp only [Act.put,sA,sB,sC]
    rfl
   apply obs_step
   · rfl
   ·intro w4 hE4 hk
    obtain ⟨c1,c2,c3,c4,c5,c6,c7,c8,c9,c10⟩:=BX.out w4 hE4
    clear hk hE4
    go_wp2
    refine post_eq ?_ (Below.refl _ _)
    simp only [Act.put,sA,sB,sC]
    try rfl
   ·simp only [Act.put,sA,sB,sC]
    rfl
   apply obs_step
   · rfl
   ·intro w4 hE4 hk
    clear hk hE4
    go_wp2_with fail
    refine (F5.out _).mono ?_
    rintro e w5 ⟨rfl,hb5⟩
    go_wp2
    refine post_eq ?_ (hb5)
    simp only [Act.put,sA,sB,sC]
    try rfl
   iterate 2
    ·simp only [Act.put,sA,sB,sC]
     rfl
    apply obs_step
    · rfl
    ·intro w4 hE4 hk
     clear hk hE4
     go_wp2
     refine post_eq ?_ (Below.refl _ _)
     simp only [Act.put,sA,sB,sC]
     try rfl
   ·simp only [Act.put,sA,sB,sC]
    rfl
   refine obs_end fun w6 hE6 _=>?_
   have hE7:=((Below.refl WW.heap.size WW).drew).trans hE6
   have P6:=Lib.hid (PP.out.keep hE7 PP.out.lt)
   have L6:=Lib.hid (LL.out.keep hE7)
   have B6:=Lib.hid (below2 HB.out hE7)
   clear PP LL HB BX hE6 hE7
   have PP:=P6
   have LL:=L6
   have HB:=B6
   clear P6 L6 B6
   go_wp2
   go_ret
   exact ⟨rfl,HB.out⟩
set_option maxRecDepth 100000 in
set_option maxHeartbeats 16000000 in
theorem refPrint_5 {w:World} {v:Value} {r:Rc} (hv:IsRec w v r) (hs:r.before.size≤16∧r.after.size≤16) (hk:r.kind=5) :
 Calls Tryz.prog 41 #[v] w fun e w'=>e=.returned (.string (strS 5))∧Below w.heap.size w w':=by
 obtain ⟨vt,vp,rfl,hl⟩:=hv
 obtain ⟨z1,z2⟩:=hs
 obtain ⟨ta,tc,hvt⟩:=hl.t.form
 obtain ⟨pa,pc,hvp⟩:=hl.p.form
 have VT:=Lib.hid hvt
 have VP:=Lib.hid hvp
 have hlt:=hl.t.le
 have hlp:=hl.p.le
 unfold maxLen at hlt hlp
 clear hvt hvp
 have hb0:Below w.heap.size w (w.alloc (.cells (recCells r vt vp) 46)):=(Below.refl _ _).alloc (Nat.le_refl _) _
 have LL:=Lib.hid (hl.keep hb0)
 have HB:=Lib.hid hb0
 have PP:=Lib.hid (Blk.new w 46 (recCells r vt vp))
 have one:=hl.one
 clear hl hb0
 have E0:(recCells r vt vp)[0]? = some (.int .i64 5):=by rw [← hk]; rfl
 have E1:(recCells r vt vp)[1]? = some (.int .i64 r.txn):=rfl
 have E2:(recCells r vt vp)[2]? = some (.int .i64 r.page):=rfl
 have E3:(recCells r vt vp)[3]? = some (.int .i64 r.off):=rfl
 have E4:(recCells r vt vp)[4]? = some (.int .i64 r.prev):=rfl
 have E5:(recCells r vt vp)[5]? = some (.int .i64 r.next):=rfl
 have E6:(recCells r vt vp)[6]? = some (.int .i64 r.beg):=rfl
 have E7:(recCells r vt vp)[7]? = some (.string r.before):=rfl
 have E8:(recCells r vt vp)[8]? = some (.string r.after):=rfl
 have E9:(recCells r vt vp)[9]? = some (.slice ta r.txns.length tc):=by rw [← VT.out]; rfl
 have E10:(recCells r vt vp)[10]? = some (.slice pa r.pages.length pc):=by rw [← VP.out]; rfl
 clear hk
 have F0:=Lib.hid (fun W=>smallS_any 5 W)
 have F1:=Lib.hid (fun W=>smallS_any r.page W)
 have F2:=Lib.hid (fun W=>smallS_any r.off W)
 have F3:=Lib.hid (fun W=>smallS_any (r.after.size:Int) W)
 have F4:=Lib.hid (fun W=>fourI_any r.txn W)
 have F5:=Lib.hid (fun W=>fourI_any r.prev W)
 have F6:=Lib.hid (fun W=>fourI_any r.next W)
 have F7:=Lib.hid (fun W=>fourI_any r.beg W)
 have y0:=strS_size 5
 have y1:=strS_size r.page
 have y2:=strS_size r.off
 have y3:=strS_size (r.after.size:Int)
 have y4:=strI_size r.txn
 have y5:=strI_size r.prev
 have y6:=strI_size r.next
 have y7:=strI_size r.beg
 generalize strS 5=s0 at *
 generalize strS r.page=s1 at *
 generalize strS r.off=s2 at *
 generalize strS (r.after.size:Int)=s3 at *
 generalize strI r.txn=s4 at *
 generalize strI r.prev=s5 at *
 generalize strI r.next=s6 at *
 generalize strI r.beg=s7 at *
 have a1:∀ W,(Op.stringOp .add s1 s2).run Tryz.prog W=.ok (.string (s1++s2)) W:=fun W=>run_string_add_sum W _ _ (by omega)
 have a2:∀ W,(Op.stringOp .add (s1++s2) s3).run Tryz.prog W=.ok (.string (s1++s2++s3)) W:=fun W=>run_string_add_sum W _ _ (by simp only [ByteArray.size_append]; omega)
 unfold recV
 go_enter Tryz.func41,Tryz.ntmps41
 go_upto_region 1 with fail
 generalize (w.alloc (.cells (recCells r vt vp) 46))=W1 at *
 have c0:=(PP.out.cell 0).trans E0
 go_wp2_with fail
 refine (F0.out _).mono ?_
 rintro e WW ⟨rfl,hb⟩
 have P6:=Lib.hid (PP.out.keep hb PP.out.lt)
 have L6:=Lib.hid (LL.out.keep hb)
 have B6:=Lib.hid (below2 HB.out hb)
 clear PP LL HB hb c0
 have PP:=P6
 have LL:=L6
 have HB:=B6
 clear P6 L6 B6
 have BX:=Lib.hid (show ∀ W,Below WW.drew.heap.size WW.drew W→W.cell? ⟨w.heap.size,1,none⟩=some (.int .i64 r.txn)∧W.cell? ⟨w.heap.size,2,none⟩=some (.int .i64 r.page)∧W.cell? ⟨w.heap.size,3,none⟩=some (.int .i64 r.off)∧W.cell? ⟨w.heap.size,4,none⟩=some (.int .i64 r.prev)∧W.cell? ⟨w.heap.size,5,none⟩=some (.int .i64 r.next)∧W.cell? ⟨w.heap.size,6,none⟩=some (.int .i64 r.beg)∧W.cell? ⟨w.heap.size,7,none⟩=some (.string r.before)∧W.cell? ⟨w.heap.size,8,none⟩=some (.string r.after)∧W.cell? ⟨w.heap.size,9,none⟩=some (.slice ta r.txns.length tc)∧W.cell? ⟨w.heap.size,10,none⟩=some (.slice pa r.pages.length pc) from
  fun W h=>have Q:=PP.out.drew.keep h PP.out.lt; ⟨(Q.cell 1).trans E1,(Q.cell 2).trans E2,(Q.cell 3).trans E3,(Q.cell 4).trans E4,(Q.cell 5).trans E5,(Q.cell 6).trans E6,(Q.cell 7).trans E7,(Q.cell 8).trans E8,(Q.cell 9).trans E9,(Q.cell 10).trans E10⟩)
 go_wp2_with fail
 refine' wp_region_conf 13 (.is _::.is _::.is _::.is _::.is _::.is _::.is _::.is _::.is _::.is _::.is _::.is _::.is _::[]) (by kernel_rfl) (by kernel_rfl) (by kernel_rfl) (by kernel_rfl) rfl ?main
 case main =>
  apply obs_step
  · rfl
  ·intro w4 hE4 hk
   clear hk hE4
   go_wp2
   refine post_eq ?_ (Below.refl _ _)
   simp only [Act.put,sA,sB,sC]
   try rfl
  ·simp only [Act.put,sA,sB,sC]
   rfl
  apply obs_step
  · rfl
  ·intro w4 hE4 hk
   obtain ⟨c1,c2,c3,c4,c5,c6,c7,c8,c9,c10⟩:=BX.out w4 hE4
   clear hk hE4
   go_wp2
   refine post_eq ?_ (Below.refl _ _)
   simp only [Act.put,sA,sB,sC]
   try rfl
  ·simp only [Act.put,sA,sB,sC]
   rfl
  apply obs_step
  · rfl
  ·intro w4 hE4 hk
   clear hk hE4
   go_wp2_with fail
   refine (F1.out _).mono ?_
   rintro e w5 ⟨rfl,hb5⟩
   go_wp2
   refine post_eq ?_ (hb5)
   simp only [Act.put,sA,sB,sC]
   try rfl
  ·simp only [Act.put,sA,sB,sC]
   rfl
  apply obs_step
  · rfl
  ·intro w4 hE4 hk
   clear hk hE4
   go_wp2
   refine post_eq ?_ (Below.refl _ _)
   simp only [Act.put,sA,sB,sC]
   try rfl
  ·simp only [Act.put,sA,sB,sC]
   rfl
  apply obs_step
  · rfl
  ·intro w4 hE4 hk
   obtain ⟨c1,c2,c3,c4,c5,c6,c7,c8,c9,c10⟩:=BX.out w4 hE4
   clear hk hE4
   go_wp2
   refine post_eq ?_ (Below.refl _ _)
   simp only [Act.put,sA,sB,sC]
   try rfl
  ·simp only [Act.put,sA,sB,sC]
   rfl
  apply obs_step
  · rfl
  ·intro w4 hE4 hk
   clear hk hE4
   go_wp2_with fail
   refine (F2.out _).mono ?_
   rintro e w5 ⟨rfl,hb5⟩
   go_wp2
   refine post_eq ?_ (hb5)
   simp only [Act.put,sA,sB,sC]
   try rfl
  iterate 2
   ·simp only [Act.put,sA,sB,sC]
    rfl
   apply obs_step
   · rfl
   ·intro w4 hE4 hk
    clear hk hE4
    go_wp2
    refine post_eq ?_ (Below.refl _ _)
    simp only [Act.put,sA,sB,sC]
    try rfl
  ·simp only [Act.put,sA,sB,sC]
   rfl
  apply obs_step
  · rfl
  ·intro w4 hE4 hk
   obtain ⟨c1,c2,c3,c4,c5,c6,c7,c8,c9,c10⟩:=BX.out w4 hE4
   clear hk hE4
   go_wp2
   refine post_eq ?_ (Below.refl _ _)
   simp only [Act.put,sA,sB,sC]
   try rfl
  ·simp only [Act.put,sA,sB,sC]
   rfl
  apply obs_step
  · rfl
  ·intro w4 hE4 hk
   clear hk hE4
   go_wp2
   refine post_eq ?_ (Below.refl _ _)
   simp only [Act.put,sA,sB,sC]
   try rfl
  ·simp only [Act.put,sA,sB,sC]
   rfl
  apply obs_step
  · rfl
  ·intro w4 hE4 hk
   clear hk hE4
   go_wp2_with fail
   refine (F3.out _).mono ?_
   rintro e w5 ⟨rfl,hb5⟩
   go_wp2
   refine post_eq ?_ (hb5)
   simp only [Act.put,sA,sB,sC]
   try rfl
  iterate 2
   ·simp only [Act.put,sA,sB,sC]
    rfl
   apply obs_step
   · rfl
   ·intro w4 hE4 hk
    clear hk hE4
    go_wp2
    refine post_eq ?_ (Below.refl _ _)
    simp only [Act.put,sA,sB,sC]
    try rfl
  ·simp only [Act.put,sA,sB,sC]
   rfl
  refine obs_end fun w6 hE6 _=>?_
  have hE7:=((Below.refl WW.heap.size WW).drew).trans hE6
  have P6:=Lib.hid (PP.out.keep hE7 PP.out.lt)
  have L6:=Lib.hid (LL.out.keep hE7)
  have B6:=Lib.hid (below2 HB.out hE7)
  clear PP LL HB BX hE6 hE7
  have PP:=P6
  have LL:=L6
  have HB:=B6
  clear P6 L6 B6
  have c0:=(PP.out.cell 0).trans E0
  clear a1 a2 F0 F1 F2 F3 WW
  generalize w6=WW at *
  go_wp2_with fail
  go_wp2
  go_ret
  exact ⟨rfl,HB.out⟩
end Go.Proofs.YthkbcfhjmnpggaaGreat
