/- Texts that belong together, joined: RecW, RecPr, RecMay. -/
import Derived.Test.YthkbcfhjmnpggaaGreatK26
import Derived.Test.YthkbcfhjmnpggaaGreatK13
import Derived.Test.YthkbcfhjmnpggaaGreatK24
namespace Go.Proofs.YthkbcfhjmnpggaaGreat
open Go.RowKit
theorem flat_snoc {α:Type} (f:α→List UInt8) (l:List α) {k:Nat} (hk:k < l.length):(l.take (k+1)).flatMap f=(l.take k).flatMap f++f l[k]:=by
 rw [List.take_succ_eq_append_getElem hk,List.flatMap_append]; simp
set_option maxRecDepth 100000 in
set_option maxHeartbeats 16000000 in
theorem refPrint_6 {w:World} {v:Value} {r:Rc} (hv:IsRec w v r) (hs:r.before.size≤16∧r.after.size≤16) (ht:r.txns.length≤4) (hp:r.pages.length≤8) (hk:r.kind=6) :
 Calls Tryz.prog 41 #[v] w fun e w'=>e=.returned (.string (⟨([lowI 6]++encTab r).toArray⟩))∧Below w.heap.size w w':=by
 obtain ⟨vt,vp,rfl,hl⟩:=hv
 obtain ⟨z1,z2⟩:=hs
 obtain ⟨ta,tc,hvt⟩:=hl.t.form
 obtain ⟨pa,pc,hvp⟩:=hl.p.form
 have VT:=Lib.hid hvt
 have VP:=Lib.hid hvp
 have hlt:=hl.t.le
 have hlp:=hl.p.le
 unfold maxLen at hlt hlp
 clear hvt hvp
 have hb0:Below w.heap.size w (w.alloc (.cells (recCells r vt vp) 46)):=(Below.refl _ _).alloc (Nat.le_refl _) _
 have LL:=Lib.hid (hl.keep hb0)
 have HB:=Lib.hid hb0
 have PP:=Lib.hid (Blk.new w 46 (recCells r vt vp))
 have one:=hl.one
 clear hl hb0
 have E0:(recCells r vt vp)[0]? = some (.int .i64 6):=by rw [← hk]; rfl
 have E1:(recCells r vt vp)[1]? = some (.int .i64 r.txn):=rfl
 have E2:(recCells r vt vp)[2]? = some (.int .i64 r.page):=rfl
 have E3:(recCells r vt vp)[3]? = some (.int .i64 r.off):=rfl
 have E4:(recCells r vt vp)[4]? = some (.int .i64 r.prev):=rfl
 have E5:(recCells r vt vp)[5]? = some (.int .i64 r.next):=rfl
 have E6:(recCells r vt vp)[6]? = some (.int .i64 r.beg):=rfl
 have E7:(recCells r vt vp)[7]? = some (.string r.before):=rfl
 have E8:(recCells r vt vp)[8]? = some (.string r.after):=rfl
 have E9:(recCells r vt vp)[9]? = some (.slice ta r.txns.length tc):=by rw [← VT.out]; rfl
 have E10:(recCells r vt vp)[10]? = some (.slice pa r.pages.length pc):=by rw [← VP.out]; rfl
 clear hk
 have F0:=Lib.hid (fun W=>smallS_any 6 W)
 have F1:=Lib.hid (fun W=>smallS_any r.page W)
 have F2:=Lib.hid (fun W=>smallS_any r.off W)
 have F3:=Lib.hid (fun W=>smallS_any (r.after.size:Int) W)
 have F4:=Lib.hid (fun W=>fourI_any r.txn W)
 have F5:=Lib.hid (fun W=>fourI_any r.prev W)
 have F6:=Lib.hid (fun W=>fourI_any r.next W)
 have F7:=Lib.hid (fun W=>fourI_any r.beg W)
 have F8:=Lib.hid (fun W=>smallS_any (r.txns.length:Int) W)
 have F9:=Lib.hid (fun W=>smallS_any (r.pages.length:Int) W)
 have y8:=strS_size (r.txns.length:Int)
 have y9:=strS_size (r.pages.length:Int)
 have HL:=Lib.hid (show [lowI 6]++encTab r=(strS 6).data.toList++(strI r.beg).data.toList++(strS (r.txns.length:Int)).data.toList++r.txns.flatMap enc3++(strS (r.pages.length:Int)).data.toList++r.pages.flatMap enc2 from by
  simp only [encTab,strS_list,strI_list,List.append_assoc])
 generalize hres:[lowI 6]++encTab r=res at *
 have y0:=strS_size 6
 have y1:=strS_size r.page
 have y2:=strS_size r.off
 have y3:=strS_size (r.after.size:Int)
 have y4:=strI_size r.txn
 have y5:=strI_size r.prev
 have y6:=strI_size r.next
 have y7:=strI_size r.beg
 generalize strS 6=s0 at *
 generalize strS r.page=s1 at *
 generalize strS r.off=s2 at *
 generalize strS (r.after.size:Int)=s3 at *
 generalize strI r.txn=s4 at *
 generalize strI r.prev=s5 at *
 generalize strI r.next=s6 at *
 generalize strI r.beg=s7 at *
 generalize strS (r.txns.length:Int)=s8 at *
 generalize strS (r.pages.length:Int)=s9 at *
 have a3:∀ W,(Op.stringOp .add s7 s8).run Tryz.prog W=.ok (.string (s7++s8)) W:=fun W=>run_string_add_sum W _ _ (by omega)
 have a4:∀ W,(Op.stringOp .add s0 (s7++s8)).run Tryz.prog W=.ok (.string (s0++(s7++s8))) W:=fun W=>run_string_add_sum W _ _ (by simp only [ByteArray.size_append]; omega)
 have a1:∀ W,(Op.stringOp .add s1 s2).run Tryz.prog W=.ok (.string (s1++s2)) W:=fun W=>run_string_add_sum W _ _ (by omega)
 have a2:∀ W,(Op.stringOp .add (s1++s2) s3).run Tryz.prog W=.ok (.string (s1++s2++s3)) W:=fun W=>run_string_add_sum W _ _ (by simp only [ByteArray.size_append]; omega)
 unfold recV
 go_enter Tryz.func41,Tryz.ntmps41
 go_upto_region 1 with fail
 generalize (w.alloc (.cells (recCells r vt vp) 46))=W1 at *
 have c0:=(PP.out.cell 0).trans E0
 go_wp2_with fail
 refine (F0.out _).mono ?_
 rintro e WW ⟨rfl,hb⟩
 have P6:=Lib.hid (PP.out.keep hb PP.out.lt)
 have L6:=Lib.hid (LL.out.keep hb)
 have B6:=Lib.hid (below2 HB.out hb)
 clear PP LL HB hb c0
 have PP:=P6
 have LL:=L6
 have HB:=B6
 clear P6 L6 B6
 have BX:=Lib.hid (show ∀ W,Below WW.drew.heap.size WW.drew W→W.cell? ⟨w.heap.size,1,none⟩=some (.int .i64 r.txn)∧W.cell? ⟨w.heap.size,2,none⟩=some (.int .i64 r.page)∧W.cell? ⟨w.heap.size,3,none⟩=some (.int .i64 r.off)∧W.cell? ⟨w.heap.size,4,none⟩=some (.int .i64 r.prev)∧W.cell? ⟨w.heap.size,5,none⟩=some (.int .i64 r.next)∧W.cell? ⟨w.heap.size,6,none⟩=some (.int .i64 r.beg)∧W.cell? ⟨w.heap.size,7,none⟩=some (.string r.before)∧W.cell? ⟨w.heap.size,8,none⟩=some (.string r.after)∧W.cell? ⟨w.heap.size,9,none⟩=some (.slice ta r.txns.length tc)∧W.cell? ⟨w.heap.size,10,none⟩=some (.slice pa r.pages.length pc) from
  fun W h=>have Q:=PP.out.drew.keep h PP.out.lt; ⟨(Q.cell 1).trans E1,(Q.cell 2).trans E2,(Q.cell 3).trans E3,(Q.cell 4).trans E4,(Q.cell 5).trans E5,(Q.cell 6).trans E6,(Q.cell 7).trans E7,(Q.cell 8).trans E8,(Q.cell 9).trans E9,(Q.cell 10).trans E10⟩)
 go_wp2_with fail
 refine' wp_region_conf 13 (.is _::.is _::.is _::.is _::.is _::.is _::.is _::.is _::.is _::.is _::.is _::.is _::.is _::[]) (by kernel_rfl) (by kernel_rfl) (by kernel_rfl) (by kernel_rfl) rfl ?main
 case main =>
  apply obs_step
  · rfl
  ·intro w4 hE4 hk
   clear hk hE4
   go_wp2
   refine post_eq ?_ (Below.refl _ _)
   simp only [Act.put,sA,sB,sC]
   try rfl
  ·simp only [Act.put,sA,sB,sC]
   rfl
  apply obs_step
  · rfl
  ·intro w4 hE4 hk
   obtain ⟨c1,c2,c3,c4,c5,c6,c7,c8,c9,c10⟩:=BX.out w4 hE4
   clear hk hE4
   go_wp2
   refine post_eq ?_ (Below.refl _ _)
   simp only [Act.put,sA,sB,sC]
   try rfl
  ·simp only [Act.put,sA,sB,sC]
   rfl
  apply obs_step
  · rfl
  ·intro w4 hE4 hk
   clear hk hE4
   go_wp2_with fail
   refine (F1.out _).mono ?_
   rintro e w5 ⟨rfl,hb5⟩
   go_wp2
   refine post_eq ?_ (hb5)
   simp only [Act.put,sA,sB,sC]
   try rfl
  ·simp only [Act.put,sA,sB,sC]
   rfl
  apply obs_step
  · rfl
  ·intro w4 hE4 hk
   clear hk hE4
   go_wp2
   refine post_eq ?_ (Below.refl _ _)
   simp only [Act.put,sA,sB,sC]
   try rfl
  ·simp only [Act.put,sA,sB,sC]
   rfl
  apply obs_step
  · rfl
  ·intro w4 hE4 hk
   obtain ⟨c1,c2,c3,c4,c5,c6,c7,c8,c9,c10⟩:=BX.out w4 hE4
   clear hk hE4
   go_wp2
   refine post_eq ?_ (Below.refl _ _)
   simp only [Act.put,sA,sB,sC]
   try rfl
  ·simp only [Act.put,sA,sB,sC]
   rfl
  apply obs_step
  · rfl
  ·intro w4 hE4 hk
   clear hk hE4
   go_wp2_with fail
   refine (F2.out _).mono ?_
   rintro e w5 ⟨rfl,hb5⟩
   go_wp2
   refine post_eq ?_ (hb5)
   simp only [Act.put,sA,sB,sC]
   try rfl
  iterate 2
   ·simp only [Act.put,sA,sB,sC]
    rfl
   apply obs_step
   · rfl
   ·intro w4 hE4 hk
    clear hk hE4
    go_wp2
    refine post_eq ?_ (Below.refl _ _)
    simp only [Act.put,sA,sB,sC]
    try rfl
  ·simp only [Act.put,sA,sB,sC]
   rfl
  apply obs_step
  · rfl
  ·intro w4 hE4 hk
   obtain ⟨c1,c2,c3,c4,c5,c6,c7,c8,c9,c10⟩:=BX.out w4 hE4
   clear hk hE4
   go_wp2
   refine post_eq ?_ (Below.refl _ _)
   simp only [Act.put,sA,sB,sC]
   try rfl
  ·simp only [Act.put,sA,sB,sC]
   rfl
  apply obs_step
  · rfl
  ·intro w4 hE4 hk
   clear hk hE4
   go_wp2
   refine post_eq ?_ (Below.refl _ _)
   simp only [Act.put,sA,sB,sC]
   try rfl
  ·simp only [Act.put,sA,sB,sC]
   rfl
  apply obs_step
  · rfl
  ·intro w4 hE4 hk
   clear hk hE4
   go_wp2_with fail
   refine (F3.out _).mono ?_
   rintro e w5 ⟨rfl,hb5⟩
   go_wp2
   refine post_eq ?_ (hb5)
   simp only [Act.put,sA,sB,sC]
   try rfl
  iterate 2
   ·simp only [Act.put,sA,sB,sC]
    rfl
   apply obs_step
   · rfl
   ·intro w4 hE4 hk
    clear hk hE4
    go_wp2
    refine post_eq ?_ (Below.refl _ _)
    simp only [Act.put,sA,sB,sC]
    try rfl
  ·simp only [Act.put,sA,sB,sC]
   rfl
  refine obs_end fun w6 hE6 _=>?_
  have hE7:=((Below.refl WW.heap.size WW).drew).trans hE6
  have P6:=Lib.hid (PP.out.keep hE7 PP.out.lt)
  have L6:=Lib.hid (LL.out.keep hE7)
  have B6:=Lib.hid (below2 HB.out hE7)
  clear PP LL HB BX hE6 hE7
  have PP:=P6
  have LL:=L6
  have HB:=B6
  clear P6 L6 B6
  have c0:=(PP.out.cell 0).trans E0
  clear a1 a2 F0 F1 F2 F3 WW
  generalize w6=WW at *
  go_wp2_with fail
  have hS0:(s0++(s7++s8)).size=6:=by simp only [ByteArray.size_append]; omega
  have BX:=Lib.hid (show ∀ W,Below WW.drew.heap.size WW.drew W→W.cell? ⟨w.heap.size,1,none⟩=some (.int .i64 r.txn)∧W.cell? ⟨w.heap.size,2,none⟩=some (.int .i64 r.page)∧W.cell? ⟨w.heap.size,3,none⟩=some (.int .i64 r.off)∧W.cell? ⟨w.heap.size,4,none⟩=some (.int .i64 r.prev)∧W.cell? ⟨w.heap.size,5,none⟩=some (.int .i64 r.next)∧W.cell? ⟨w.heap.size,6,none⟩=some (.int .i64 r.beg)∧W.cell? ⟨w.heap.size,7,none⟩=some (.string r.before)∧W.cell? ⟨w.heap.size,8,none⟩=some (.string r.after)∧W.cell? ⟨w.heap.size,9,none⟩=some (.slice ta r.txns.length tc)∧W.cell? ⟨w.heap.size,10,none⟩=some (.slice pa r.pages.length pc) from
   fun W h=>have Q:=PP.out.drew.keep h PP.out.lt; ⟨(Q.cell 1).trans E1,(Q.cell 2).trans E2,(Q.cell 3).trans E3,(Q.cell 4).trans E4,(Q.cell 5).trans E5,(Q.cell 6).trans E6,(Q.cell 7).trans E7,(Q.cell 8).trans E8,(Q.cell 9).trans E9,(Q.cell 10).trans E10⟩)
  clear c0
  refine' wp_region_conf 11 (.is _::.is _::.is _::.is _::.is _::.is _::.is _::.is _::.is _::.is _::.is _::[]) (by kernel_rfl) (by kernel_rfl) (by kernel_rfl) (by kernel_rfl) rfl ?main
  case main =>
   iterate 2
    apply obs_step
    · rfl
    ·intro w4 hE4 hk
     clear hk hE4
     go_wp2
     refine post_eq ?_ (Below.refl _ _)
     simp only [Act.put,sA,sB,sC]
     try rfl
    ·simp only [Act.put,sA,sB,sC]
     rfl
   apply obs_step
   · rfl
   ·intro w4 hE4 hk
    obtain ⟨c1,c2,c3,c4,c5,c6,c7,c8,c9,c10⟩:=BX.out w4 hE4
    clear hk hE4
    go_wp2
    refine post_eq ?_ (Below.refl _ _)
    simp only [Act.put,sA,sB,sC]
    try rfl
   ·simp only [Act.put,sA,sB,sC]
    rfl
   apply obs_step
   · rfl
   ·intro w4 hE4 hk
    clear hk hE4
    go_wp2_with fail
    refine (F7.out _).mono ?_
    rintro e w5 ⟨rfl,hb5⟩
    go_wp2
    refine post_eq ?_ (hb5)
    simp only [Act.put,sA,sB,sC]
    try rfl
   ·simp only [Act.put,sA,sB,sC]
    rfl
   apply obs_step
   · rfl
   ·intro w4 hE4 hk
    clear hk hE4
    go_wp2
    refine post_eq ?_ (Below.refl _ _)
    simp only [Act.put,sA,sB,sC]
    try rfl
   ·simp only [Act.put,sA,sB,sC]
    rfl
   apply obs_step
   · rfl
   ·intro w4 hE4 hk
    obtain ⟨c1,c2,c3,c4,c5,c6,c7,c8,c9,c10⟩:=BX.out w4 hE4
    clear hk hE4
    go_wp2
    refine post_eq ?_ (Below.refl _ _)
    simp only [Act.put,sA,sB,sC]
    try rfl
   ·simp only [Act.put,sA,sB,sC]
    rfl
   apply obs_step
   · rfl
   ·intro w4 hE4 hk
    clear hk hE4
    go_wp2
    refine post_eq ?_ (Below.refl _ _)
    simp only [Act.put,sA,sB,sC]
    try rfl
   ·simp only [Act.put,sA,sB,sC]
    rfl
   apply obs_step
   · rfl
   ·intro w4 hE4 hk
    clear hk hE4
    go_wp2_with fail
    refine (F8.out _).mono ?_
    rintro e w5 ⟨rfl,hb5⟩
    go_wp2
    refine post_eq ?_ (hb5)
    simp only [Act.put,sA,sB,sC]
    try rfl
   iterate 3
    ·simp only [Act.put,sA,sB,sC]
     rfl
    apply obs_step
    · rfl
    ·intro w4 hE4 hk
     clear hk hE4
     go_wp2
     refine post_eq ?_ (Below.refl _ _)
     simp only [Act.put,sA,sB,sC]
     try rfl
   ·simp only [Act.put,sA,sB,sC]
    rfl
   refine obs_end fun w6 hE6 _=>?_
   have hE7:=((Below.refl WW.heap.size WW).drew).trans hE6
   have P6:=Lib.hid (PP.out.keep hE7 PP.out.lt)
   have L6:=Lib.hid (LL.out.keep hE7)
   have B6:=Lib.hid (below2 HB.out hE7)
   clear PP LL HB BX hE6 hE7
   have PP:=P6
   have LL:=L6
   have HB:=B6
   clear P6 L6 B6
   have HS:=Lib.hid (show (s0++(s7++s8)).data.toList=s0.data.toList++s7.data.toList++s8.data.toList from by simp only [ByteArray.data_append,Array.toList_append,List.append_assoc])
   clear a3 a4 F4 F5 F6 F7 F8
   generalize s0++(s7++s8)=S0 at *
   generalize s0.data.toList++s7.data.toList++s8.data.toList=L0 at *
   clear y0 y1 y2 y3 y4 y5 y6 y7 y8
   go_wp2_with fail
   go_loopw [3,5] (fun vs vk wr=>∃ (k:Nat) (S:ByteArray),k≤r.txns.length∧vk=.int .i64 k∧vs=.string S∧S.size=6+12*k∧Hid (S.data.toList=L0++(r.txns.take k).flatMap enc3)∧Below w.heap.size w wr∧Blk wr w.heap.size 46 (recCells r vt vp)∧Lists wr r vt vp) (fun _ vk _=>r.txns.length - (intOf vk).toNat)
   case atStart=>exact ⟨0,S0,Nat.zero_le _,rfl,rfl,hS0,(show _=_ from by rw [HS.out]; simp),HB.out,PP.out,LL.out⟩
   case round =>
    obtain ⟨k,S,hk,rfl,rfl,hz,HZ,hB,hP,hL⟩:=hrel
    clear PP LL HB HS hS0
    have PP:=Lib.hid hP
    have LL:=Lib.hid hL
    have HB:=Lib.hid hB
    have c9:=(PP.out.cell 9).trans E9
    clear hP hL hB
    by_cases hlt2:k < r.txns.length
    ·obtain ⟨b,off,cap,hv,_,_,hbl,hc⟩:=LL.out.t.at3 (fun e=>by rw [e] at hlt2; simp at hlt2)
     rw [VT.out] at hv
     simp only [Value.slice.injEq] at hv
     obtain ⟨rfl,_,rfl⟩:=hv
     obtain ⟨d0,d1,d2⟩:=hc k hlt2
     have HN:=Lib.hid (show (S++(strI r.txns[k].1++strI r.txns[k].2.1++strI r.txns[k].2.2)).data.toList=L0++(r.txns.take (k+1)).flatMap enc3 from by
      rw [flat_snoc _ _ hlt2]
      simp only [ByteArray.data_append,Array.toList_append,HZ.out,strI_list,enc3,List.append_assoc])
     have G1:=Lib.hid (fun W=>fourI_any r.txns[k].1 W)
     have G2:=Lib.hid (fun W=>fourI_any r.txns[k].2.1 W)
     have G3:=Lib.hid (fun W=>fourI_any r.txns[k].2.2 W)
     have u1:=strI_size r.txns[k].1
     have u2:=strI_size r.txns[k].2.1
     have u3:=strI_size r.txns[k].2.2
     generalize strI r.txns[k].1=t1 at *
     generalize strI r.txns[k].2.1=t2 at *
     generalize strI r.txns[k].2.2=t3 at *
     generalize r.txns[k].1=x1 at *
     generalize r.txns[k].2.1=x2 at *
     generalize r.txns[k].2.2=x3 at *
     clear hc HZ
     have b1:∀ W,(Op.stringOp .add (t1) (t2)).run Tryz.prog W=.ok (.string ((t1)++(t2))) W:=fun W=>run_string_add_sum W _ _ (by first | omega | (simp only [ByteArray.size_append]; omega))
     have b2:∀ W,(Op.stringOp .add (t1++t2) (t3)).run Tryz.prog W=.ok (.string ((t1++t2)++(t3))) W:=fun W=>run_string_add_sum W _ _ (by first | omega | (simp only [ByteArray.size_append]; omega))
     have b3:∀ W,(Op.stringOp .add (S) (t1++t2++t3)).run Tryz.prog W=.ok (.string ((S)++(t1++t2++t3))) W:=fun W=>run_string_add_sum W _ _ (by first | omega | (simp only [ByteArray.size_append]; omega))
     have hz2:(S++(t1++t2++t3)).size=6+12*(k+1):=by simp only [ByteArray.size_append]; omega
     have BX:=Lib.hid (show ∀ W,Below wr.drew.heap.size wr.drew W→W.cell? ⟨w.heap.size,9,none⟩=some (.slice (some ⟨b,off,none⟩) r.txns.length tc)∧W.cell? ⟨b,off+k*3,none⟩=some (.int .i64 x1)∧W.cell? ⟨b,off+k*3+1,none⟩=some (.int .i64 x2)∧W.cell? ⟨b,off+k*3+2,none⟩=some (.int .i64 x3) from
      fun W h=>⟨(h.cell (p:=⟨w.heap.size,9,none⟩) PP.out.lt).trans c9,(h.cell (p:=⟨b,off+k*3,none⟩) hbl).trans d0,(h.cell (p:=⟨b,off+k*3+1,none⟩) hbl).trans d1,(h.cell (p:=⟨b,off+k*3+2,none⟩) hbl).trans d2⟩)
     go_wp2_with fail
     clear c9 d0 d1 d2
     refine' wp_region_conf 26 (.is _::.is _::.is _::.is _::.is _::.is _::.is _::.is _::.is _::.is _::.is _::.is _::.is _::.is _::.is _::.is _::.is _::.is _::.is _::.is _::.is _::.is _::.is _::.is _::.is _::.is _::[]) (by kernel_rfl) (by kernel_rfl) (by kernel_rfl) (by kernel_rfl) rfl ?main
     case main =>
      iterate 2
       apply obs_step
       · rfl
       ·intro w4 hE4 hk
        clear hk hE4
        go_wp2
        refine post_eq ?_ (Below.refl _ _)
        simp only [Act.put,sA,sB,sC]
        try rfl
       ·simp only [Act.put,sA,sB,sC]
        rfl
      apply obs_step
      · rfl
      ·intro w4 hE4 hk
       obtain ⟨b9,f0,f1,f2⟩:=BX.out w4 hE4
       clear hk hE4
       go_wp2
       refine post_eq ?_ (Below.refl _ _)
       simp only [Act.put,sA,sB,sC]
       try rfl
      iterate 3
       ·simp only [Act.put,sA,sB,sC]
        rfl
       apply obs_step
       · rfl
       ·intro w4 hE4 hk
        clear hk hE4
        go_wp2
        refine post_eq ?_ (Below.refl _ _)
        simp only [Act.put,sA,sB,sC]
        try rfl
      ·simp only [Act.put,sA,sB,sC]
       rfl
      apply obs_step
      · rfl
      ·intro w4 hE4 hk
       obtain ⟨b9,f0,f1,f2⟩:=BX.out w4 hE4
       clear hk hE4
       go_wp2
       refine post_eq ?_ (Below.refl _ _)
       simp only [Act.put,sA,sB,sC]
       try rfl
      ·simp only [Act.put,sA,sB,sC]
       rfl
      apply obs_step
      · rfl
      ·intro w4 hE4 hk
       clear hk hE4
       go_wp2_with fail
       refine (G1.out _).mono ?_
       rintro e w5 ⟨rfl,hb5⟩
       go_wp2
       refine post_eq ?_ (hb5)
       simp only [Act.put,sA,sB,sC]
       try rfl
      ·simp only [Act.put,sA,sB,sC]
       rfl
      apply obs_step
      · rfl
      ·intro w4 hE4 hk
       clear hk hE4
       go_wp2
       refine post_eq ?_ (Below.refl _ _)
       simp only [Act.put,sA,sB,sC]
       try rfl
      ·simp only [Act.put,sA,sB,sC]
       rfl
      apply obs_step
      · rfl
      ·intro w4 hE4 hk
       obtain ⟨b9,f0,f1,f2⟩:=BX.out w4 hE4
       clear hk hE4
       go_wp2
       refine post_eq ?_ (Below.refl _ _)
       simp only [Act.put,sA,sB,sC]
       try rfl
      iterate 3
       ·simp only [Act.put,sA,sB,sC]
        rfl
       apply obs_step
       · rfl
       ·intro w4 hE4 hk
        clear hk hE4
        go_wp2
        refine post_eq ?_ (Below.refl _ _)
        simp only [Act.put,sA,sB,sC]
        try rfl
      ·simp only [Act.put,sA,sB,sC]
       rfl
      apply obs_step
      · rfl
      ·intro w4 hE4 hk
       obtain ⟨b9,f0,f1,f2⟩:=BX.out w4 hE4
       clear hk hE4
       go_wp2
       refine post_eq ?_ (Below.refl _ _)
       simp only [Act.put,sA,sB,sC]
       try rfl
      ·simp only [Act.put,sA,sB,sC]
       rfl
      apply obs_step
      · rfl
      ·intro w4 hE4 hk
       clear hk hE4
       go_wp2_with fail
       refine (G2.out _).mono ?_
       rintro e w5 ⟨rfl,hb5⟩
       go_wp2
       refine post_eq ?_ (hb5)
       simp only [Act.put,sA,sB,sC]
       try rfl
      iterate 2
       ·simp only [Act.put,sA,sB,sC]
        rfl
       apply obs_step
       · rfl
       ·intro w4 hE4 hk
        clear hk hE4
        go_wp2
        refine post_eq ?_ (Below.refl _ _)
        simp only [Act.put,sA,sB,sC]
        try rfl
      ·simp only [Act.put,sA,sB,sC]
       rfl
      apply obs_step
      · rfl
      ·intro w4 hE4 hk
       obtain ⟨b9,f0,f1,f2⟩:=BX.out w4 hE4
       clear hk hE4
       go_wp2
       refine post_eq ?_ (Below.refl _ _)
       simp only [Act.put,sA,sB,sC]
       try rfl
      iterate 3
       ·simp only [Act.put,sA,sB,sC]
        rfl
       apply obs_step
       · rfl
       ·intro w4 hE4 hk
        clear hk hE4
        go_wp2
        refine post_eq ?_ (Below.refl _ _)
        simp only [Act.put,sA,sB,sC]
        try rfl
      ·simp only [Act.put,sA,sB,sC]
       rfl
      apply obs_step
      · rfl
      ·intro w4 hE4 hk
       obtain ⟨b9,f0,f1,f2⟩:=BX.out w4 hE4
       clear hk hE4
       go_wp2
       refine post_eq ?_ (Below.refl _ _)
       simp only [Act.put,sA,sB,sC]
       try rfl
      ·simp only [Act.put,sA,sB,sC]
       rfl
      apply obs_step
      · rfl
      ·intro w4 hE4 hk
       clear hk hE4
       go_wp2_with fail
       refine (G3.out _).mono ?_
       rintro e w5 ⟨rfl,hb5⟩
       go_wp2
       refine post_eq ?_ (hb5)
       simp only [Act.put,sA,sB,sC]
       try rfl
      iterate 3
       ·simp only [Act.put,sA,sB,sC]
        rfl
       apply obs_step
       · rfl
       ·intro w4 hE4 hk
        clear hk hE4
        go_wp2
        refine post_eq ?_ (Below.refl _ _)
        simp only [Act.put,sA,sB,sC]
        try rfl
      ·simp only [Act.put,sA,sB,sC]
       rfl
      refine obs_end fun w6 hE6 _=>?_
      have hE7:=((Below.refl wr.heap.size wr).drew).trans hE6
      have P6:=Lib.hid (PP.out.keep hE7 PP.out.lt)
      have L6:=Lib.hid (LL.out.keep hE7)
      have B6:=Lib.hid (below2 HB.out hE7)
      clear PP LL HB BX hE6 hE7
      have PP:=P6
      have LL:=L6
      have HB:=B6
      clear P6 L6 B6
      clear b1 b2 b3
      generalize S++(t1++t2++t3)=S2 at *
      go_wp2
      go_roundw
      case rel=>exact ⟨k+1,S2,by omega,by go_num,rfl,hz2,HN,HB.out,PP.out,LL.out⟩
      case measure=>simp [intOf]; omega
    ·have hkk:k=r.txns.length:=by omega
     have HZ2:=Lib.hid (show S.data.toList=L0++r.txns.flatMap enc3 from by rw [HZ.out,hkk,List.take_length])
     clear HZ
     have c10:=(PP.out.cell 10).trans E10
     have b1:∀ W,(Op.stringOp .add (S) (s9)).run Tryz.prog W=.ok (.string ((S)++(s9))) W:=fun W=>run_string_add_sum W _ _ (by first | omega | (simp only [ByteArray.size_append]; omega))
     go_wp2_with fail
     refine (F9.out _).mono ?_
     rintro e w6 ⟨rfl,hE7⟩
     have P6:=Lib.hid (PP.out.keep hE7 PP.out.lt)
     have L6:=Lib.hid (LL.out.keep hE7)
     have B6:=Lib.hid (below2 HB.out hE7)
     clear PP LL HB hE7
     have PP:=P6
     have LL:=L6
     have HB:=B6
     clear P6 L6 B6
     clear c9 c10
     have c10:=(PP.out.cell 10).trans E10
     have hS1:(S++s9).size=7+12*r.txns.length:=by simp only [ByteArray.size_append]; omega
     have HS:=Lib.hid (show (S++s9).data.toList=L0++r.txns.flatMap enc3++s9.data.toList from by simp only [ByteArray.data_append,Array.toList_append,HZ2.out])
     generalize S++s9=S1 at *
     generalize L0++r.txns.flatMap enc3++s9.data.toList=L1 at *
     have hM:7+12*r.txns.length≤100:=by omega
     generalize 7+12*r.txns.length=M at *
     clear HZ2 F9 hz y9 hk hkk
     go_wp2_with fail
     clear c10 b1 hlt2
     go_loopw [3,6] (fun vs vk wr=>∃ (k:Nat) (S:ByteArray),k≤r.pages.length∧vk=.int .i64 k∧vs=.string S∧S.size=M+5*k∧Hid (S.data.toList=L1++(r.pages.take k).flatMap enc2)∧Below w.heap.size w wr∧Blk wr w.heap.size 46 (recCells r vt vp)∧Lists wr r vt vp) (fun _ vk _=>r.pages.length - (intOf vk).toNat)
     case atStart=>exact ⟨0,S1,Nat.zero_le _,rfl,rfl,hS1,(show _=_ from by rw [HS.out]; simp),HB.out,PP.out,LL.out⟩
     case round =>
      obtain ⟨k,S,hk,rfl,rfl,hz,HZ,hB,hP,hL⟩:=hrel
      clear PP LL HB HS hS1
      have PP:=Lib.hid hP
      have LL:=Lib.hid hL
      have HB:=Lib.hid hB
      have c10:=(PP.out.cell 10).trans E10
      clear hP hL hB
      by_cases hlt2:k < r.pages.length
      ·obtain ⟨b,off,cap,hv,_,_,hbl,hc⟩:=LL.out.p.at2 (fun e=>by rw [e] at hlt2; simp at hlt2)
       rw [VP.out] at hv
       simp only [Value.slice.injEq] at hv
       obtain ⟨rfl,_,rfl⟩:=hv
       obtain ⟨d0,d1⟩:=hc k hlt2
       have HN:=Lib.hid (show (S++(strS r.pages[k].1++strI r.pages[k].2)).data.toList=L1++(r.pages.take (k+1)).flatMap enc2 from by
        rw [flat_snoc _ _ hlt2]
        simp only [ByteArray.data_append,Array.toList_append,HZ.out,strI_list,strS_list,enc2,List.append_assoc,List.singleton_append])
       have G1:=Lib.hid (fun W=>smallS_any r.pages[k].1 W)
       have G2:=Lib.hid (fun W=>fourI_any r.pages[k].2 W)
       have u1:=strS_size r.pages[k].1
       have u2:=strI_size r.pages[k].2
       generalize strS r.pages[k].1=t1 at *
       generalize strI r.pages[k].2=t2 at *
       generalize r.pages[k].1=x1 at *
       generalize r.pages[k].2=x2 at *
       clear hc HZ
       have b1:∀ W,(Op.stringOp .add (t1) (t2)).run Tryz.prog W=.ok (.string ((t1)++(t2))) W:=fun W=>run_string_add_sum W _ _ (by first | omega | (simp only [ByteArray.size_append]; omega))
       have b2:∀ W,(Op.stringOp .add (S) (t1++t2)).run Tryz.prog W=.ok (.string ((S)++(t1++t2))) W:=fun W=>run_string_add_sum W _ _ (by first | omega | (simp only [ByteArray.size_append]; omega))
       have hz2:(S++(t1++t2)).size=M+5*(k+1):=by simp only [ByteArray.size_append]; omega
       have BX:=Lib.hid (show ∀ W,Below wr.drew.heap.size wr.drew W→W.cell? ⟨w.heap.size,10,none⟩=some (.slice (some ⟨b,off,none⟩) r.pages.length pc)∧W.cell? ⟨b,off+k*2,none⟩=some (.int .i64 x1)∧W.cell? ⟨b,off+k*2+1,none⟩=some (.int .i64 x2) from
        fun W h=>⟨(h.cell (p:=⟨w.heap.size,10,none⟩) PP.out.lt).trans c10,(h.cell (p:=⟨b,off+k*2,none⟩) hbl).trans d0,(h.cell (p:=⟨b,off+k*2+1,none⟩) hbl).trans d1⟩)
       go_wp2_with fail
       clear c10 d0 d1
       refine' wp_region_conf 18 (.is _::.is _::.is _::.is _::.is _::.is _::.is _::.is _::.is _::.is _::.is _::.is _::.is _::.is _::.is _::.is _::.is _::.is _::[]) (by kernel_rfl) (by kernel_rfl) (by kernel_rfl) (by kernel_rfl) rfl ?main
       case main =>
        iterate 2
         apply obs_step
         · rfl
         ·intro w4 hE4 hk
          clear hk hE4
          go_wp2
          refine post_eq ?_ (Below.refl _ _)
          simp only [Act.put,sA,sB,sC]
          try rfl
         ·simp only [Act.put,sA,sB,sC]
          rfl
        apply obs_step
        · rfl
        ·intro w4 hE4 hk
         obtain ⟨b9,f0,f1⟩:=BX.out w4 hE4
         clear hk hE4
         go_wp2
         refine post_eq ?_ (Below.refl _ _)
         simp only [Act.put,sA,sB,sC]
         try rfl
        iterate 3
         ·simp only [Act.put,sA,sB,sC]
          rfl
         apply obs_step
         · rfl
         ·intro w4 hE4 hk
          clear hk hE4
          go_wp2
          refine post_eq ?_ (Below.refl _ _)
          simp only [Act.put,sA,sB,sC]
          try rfl
        ·simp only [Act.put,sA,sB,sC]
         rfl
        apply obs_step
        · rfl
        ·intro w4 hE4 hk
         obtain ⟨b9,f0,f1⟩:=BX.out w4 hE4
         clear hk hE4
         go_wp2
         refine post_eq ?_ (Below.refl _ _)
         simp only [Act.put,sA,sB,sC]
         try rfl
        ·simp only [Act.put,sA,sB,sC]
         rfl
        apply obs_step
        · rfl
        ·intro w4 hE4 hk
         clear hk hE4
         go_wp2_with fail
         refine (G1.out _).mono ?_
         rintro e w5 ⟨rfl,hb5⟩
         go_wp2
         refine post_eq ?_ (hb5)
         simp only [Act.put,sA,sB,sC]
         try rfl
        ·simp only [Act.put,sA,sB,sC]
         rfl
        apply obs_step
        · rfl
        ·intro w4 hE4 hk
         clear hk hE4
         go_wp2
         refine post_eq ?_ (Below.refl _ _)
         simp only [Act.put,sA,sB,sC]
         try rfl
        ·simp only [Act.put,sA,sB,sC]
         rfl
        apply obs_step
        · rfl
        ·intro w4 hE4 hk
         obtain ⟨b9,f0,f1⟩:=BX.out w4 hE4
         clear hk hE4
         go_wp2
         refine post_eq ?_ (Below.refl _ _)
         simp only [Act.put,sA,sB,sC]
         try rfl
        iterate 3
         ·simp only [Act.put,sA,sB,sC]
          rfl
         apply obs_step
         · rfl
         ·intro w4 hE4 hk
          clear hk hE4
          go_wp2
          refine post_eq ?_ (Below.refl _ _)
          simp only [Act.put,sA,sB,sC]
          try rfl
        ·simp only [Act.put,sA,sB,sC]
         rfl
        apply obs_step
        · rfl
        ·intro w4 hE4 hk
         obtain ⟨b9,f0,f1⟩:=BX.out w4 hE4
         clear hk hE4
         go_wp2
         refine post_eq ?_ (Below.refl _ _)
         simp only [Act.put,sA,sB,sC]
         try rfl
        ·simp only [Act.put,sA,sB,sC]
         rfl
        apply obs_step
        · rfl
        ·intro w4 hE4 hk
         clear hk hE4
         go_wp2_with fail
         refine (G2.out _).mono ?_
         rintro e w5 ⟨rfl,hb5⟩
         go_wp2
         refine post_eq ?_ (hb5)
         simp only [Act.put,sA,sB,sC]
         try rfl
        iterate 3
         ·simp only [Act.put,sA,sB,sC]
          rfl
         apply obs_step
         · rfl
         ·intro w4 hE4 hk
          clear hk hE4
          go_wp2
          refine post_eq ?_ (Below.refl _ _)
          simp only [Act.put,sA,sB,sC]
          try rfl
        ·simp only [Act.put,sA,sB,sC]
         rfl
        refine obs_end fun w6 hE6 _=>?_
        have hE7:=((Below.refl wr.heap.size wr).drew).trans hE6
        have P6:=Lib.hid (PP.out.keep hE7 PP.out.lt)
        have L6:=Lib.hid (LL.out.keep hE7)
        have B6:=Lib.hid (below2 HB.out hE7)
        clear PP LL HB BX hE6 hE7
        have PP:=P6
        have LL:=L6
        have HB:=B6
        clear P6 L6 B6
        clear b1 b2
        generalize S++(t1++t2)=S2 at *
        go_wp2
        go_roundw
        case rel=>exact ⟨k+1,S2,by omega,by go_num,rfl,hz2,HN,HB.out,PP.out,LL.out⟩
        case measure=>simp [intOf]; omega
      ·have hkk:k=r.pages.length:=by omega
       have HZ2:=Lib.hid (show S=⟨res.toArray⟩ from bytes_eq (by rw [HZ.out,hkk,List.take_length,HL.out]))
       clear HZ HL
       go_wp2
       go_ret
       exact ⟨by rw [HZ2.out]; rfl,HB.out⟩
end Go.Proofs.YthkbcfhjmnpggaaGreat

namespace Go.Proofs.YthkbcfhjmnpggaaGreat
open Go.RowKit
theorem refPrint_any {w:World} {v:Value} {r:Rc} (hv:IsRec w v r) (hm:May r) :
 Calls Tryz.prog 41 #[v] w fun e w'=>e=.returned (.string ⟨(lay r).toArray⟩)∧Below w.heap.size w w':=by
 cases hm with
 | @upd t p pg o b a ht hn hp hs hb =>
   obtain ⟨_,_,⟨h1,h2⟩,_⟩:=hs
   refine (refPrint_1 hv ⟨by show b.size≤16; omega,by show a.size≤16; omega⟩ rfl).mono ?_
   rintro e w' ⟨rfl,hB⟩
   refine ⟨?_,hB⟩
   congr 2
   exact bytes_eq (by simp [lay,Rc.upd,ByteArray.data_append,strI_list,strS_list])
 | @und t p n pg o a ht hn hp hx hs =>
   obtain ⟨_,_,⟨h1,h2⟩,_⟩:=hs
   refine (refPrint_2 hv ⟨by show (0:Nat)≤16; omega,by show a.size≤16; omega⟩ rfl).mono ?_
   rintro e w' ⟨rfl,hB⟩
   refine ⟨?_,hB⟩
   congr 2
   exact bytes_eq (by simp [lay,Rc.und,ByteArray.data_append,strI_list,strS_list])
 | @com k t p hk ht hn hp =>
   rcases hk with rfl | rfl
   ·refine (refPrint_3 hv ⟨by show (0:Nat)≤16; omega,by show (0:Nat)≤16; omega⟩ rfl).mono ?_
    rintro e w' ⟨rfl,hB⟩
    refine ⟨?_,hB⟩
    congr 2
   ·refine (refPrint_4 hv ⟨by show (0:Nat)≤16; omega,by show (0:Nat)≤16; omega⟩ rfl).mono ?_
    rintro e w' ⟨rfl,hB⟩
    refine ⟨?_,hB⟩
    congr 2
 | beg =>
   refine (refPrint_5 hv ⟨by show (0:Nat)≤16; omega,by show (0:Nat)≤16; omega⟩ rfl).mono ?_
   rintro e w' ⟨rfl,hB⟩
   refine ⟨?_,hB⟩
   congr 2
 | @tab b ts ps hb ht hp h3 h2 =>
   refine (refPrint_6 hv ⟨by show (0:Nat)≤16; omega,by show (0:Nat)≤16; omega⟩ ht hp rfl).mono ?_
   rintro e w' ⟨rfl,hB⟩
   refine ⟨?_,hB⟩
   congr 3
end Go.Proofs.YthkbcfhjmnpggaaGreat

namespace Go.Proofs.YthkbcfhjmnpggaaGreat
open Go.RowKit
theorem refMay_any {w:World} {v:Value} {r:Rc} (hv:IsRec w v r) (hs:r.before.size≤maxLen∧r.after.size≤maxLen) (yes:Bool) (hy:yes=true↔May r) :
 Calls Tryz.prog 40 #[v] w fun e w'=>e=.returned (.bool yes)∧Below w.heap.size w w':=by
 by_cases h1:r.kind=1
 · exact refMay_1 hv hs h1 yes hy
 by_cases h2:r.kind=2
 · exact refMay_2 hv hs h2 yes hy
 by_cases h3:r.kind=3
 · exact refMay_3 hv hs h3 yes hy
 by_cases h4:r.kind=4
 · exact refMay_4 hv hs h4 yes hy
 by_cases h5:r.kind=5
 · exact refMay_5 hv hs h5 yes hy
 by_cases h6:r.kind=6
 · exact refMay_6 hv hs h6 yes hy
 exact refMay_o hv hs h1 h2 h3 h4 h5 h6 yes hy
end Go.Proofs.YthkbcfhjmnpggaaGreat
