/- Texts that belong together, joined: RpG, RpH, RpI. -/
import Derived.Test.YthkbcfhjmnpggaaGreatK22
import Derived.Test.YthkbcfhjmnpggaaGreatK27
import Derived.Test.YthkbcfhjmnpggaaGreatK12
import Derived.Test.YthkbcfhjmnpggaaGreatK18
namespace Go.Proofs.YthkbcfhjmnpggaaGreat
open Go.RowKit
section
variable {w:World} {F:Foot} {g gd k:Nat} {l:Wl} {vb v:Value} {pre:List ByteArray} {u:ByteArray} {r:Rc}
def AppR (w:World) (F:Foot) (g gd:Nat) (l:Wl) (at_ er n:Nat) (bs:List ByteArray) (e:Ending) (w':World):Prop :=
 e=.returned (.tuple #[.int .i64 at_,.int .i64 er])∧∃ F' vb',RLR w' F' g gd l vb' n bs∧Step F F' w w'
theorem Fit.sized {r:Rc} (h:Fit r):r.before.size≤maxLen∧r.after.size≤maxLen:=⟨by have:=h.before; unfold maxLen; omega,by have:=h.after; unfold maxLen; omega⟩
theorem strs_last (pre:List ByteArray) (u:ByteArray):(strsV (pre++[u]))[pre.length]? = some (.string u):=by simp [strsV]
theorem strs_put (pre:List ByteArray) (u s:ByteArray):(pre++[u]).set pre.length s=pre++[s]:=by simp
set_option maxRecDepth 100000 in
set_option maxHeartbeats 8000000 in
theorem rlAppend_bad (h:RLR w F g gd l vb k pre) (hv:IsRec w v r) (hf:Fit r) (hm:¬ May r) :
 Calls Tryz.prog 12 #[.pointer (some ⟨g,0,none⟩),v] w (AppR w F g gd l 0 1 k pre):=by
 obtain ⟨vt,vp,rfl,hl⟩:=hv
 have hb0:Below w.heap.size w (w.alloc (.cells (recCells r vt vp) 46)):=(Below.refl _ _).alloc (Nat.le_refl _) _
 have B0:=Blk.new w 46 (recCells r vt vp)
 have MY:Hid (Calls Tryz.prog 40 #[.agg (recCells r vt vp)] _ _):=refMay_any ⟨vt,vp,rfl,hl.keep hb0⟩ hf.sized false (by simp [hm])
 have HB:=Lib.hid hb0
 have HI:=Lib.hid h
 clear hl hf hm hb0 h
 unfold recV
 go_enter Tryz.func12,Tryz.ntmps12
 go_wp2_with (refine wpList_load_row rfl 46 _ rfl w.heap.size rfl 46 _ (0,0) _ B0 Tryz.underlying46 rfl (by kernel_rfl) ?_)
 refine MY.out.mono ?_
 rintro e w1 ⟨rfl,hb1⟩
 have HB1:=Lib.hid (below2 HB.out hb1)
 clear hb1 MY HB B0
 go_wp2
 go_ret2
 exact ⟨rfl,F,vb,HI.out.below HB1.out,.ofBelow HB1.out⟩
set_option maxRecDepth 100000 in
set_option maxHeartbeats 16000000 in
theorem rlAppend_first (h:RLR w F g gd l vb (k+1) (pre++[(⟨#[]⟩:ByteArray)])) (hp:pre.length=k) (hv:IsRec w v r) (hf:Fit r) (hm:May r) (hl31:l.low≤2147483647) (h64:l.size≤64) (hk:k < l.size) :
 Calls Tryz.prog 12 #[.pointer (some ⟨g,0,none⟩),v] w (AppR w F g gd l ((l.low+k)*128) 0 (k+1) (pre++[(⟨(lay r).toArray⟩:ByteArray)])):=by
 obtain ⟨vt,vp,rfl,hl⟩:=hv
 have hb0:Below w.heap.size w (w.alloc (.cells (recCells r vt vp) 46)):=(Below.refl _ _).alloc (Nat.le_refl _) _
 have B0:=Lib.hid (Blk.new w 46 (recCells r vt vp))
 have MY:Hid (Calls Tryz.prog 40 #[.agg (recCells r vt vp)] (w.alloc (.cells (recCells r vt vp) 46)) _):=refMay_any ⟨vt,vp,rfl,hl.keep hb0⟩ hf.sized true (by simp [hm])
 have PR:Hid (∀ W,Below w.heap.size w W→Calls Tryz.prog 41 #[.agg (recCells r vt vp)] W _):=fun W hW=>refPrint_any ⟨vt,vp,rfl,hl.keep hW⟩ hm
 have ht2:(⟨(lay r).toArray⟩:ByteArray).size≤112:=by have:=lay_short hm; simpa [ByteArray.size] using this
 generalize (⟨(lay r).toArray⟩:ByteArray)=t at *
 have ht112:(t.size:Int)≤112:=by omega
 have HB:=Lib.hid hb0
 obtain ⟨g2,cap,rfl,hcap,hcm⟩:=own_form h.rows (by omega)
 have RR:=Lib.hid h
 have OP:Hid (∀ W,Below w.heap.size w W→_):=fun W hW=>rlOpen_any (h.below hW) hl31 (by omega)
 have C:Hid (∀ W,Below w.heap.size w W→W.cell? ⟨g,2,none⟩=some (.int .i64 l.size)∧W.cell? ⟨g,3,none⟩=some (.int .i64 l.low)∧W.cell? ⟨g,6,none⟩=some (.slice (some ⟨g2,0,none⟩) (k+1) cap)∧W.cell? ⟨g2,k,none⟩=some (.string ⟨#[]⟩)):=fun W hW=>by
  have r:=h.below hW
  obtain ⟨_,_,c2,c3,_,_,c6⟩:=r.cells
  refine ⟨c2,c3,c6,?_⟩
  have cy:=r.rows.cellAt k (by omega)
  rw [← hp,strs_last] at cy
  rw [← hp]
  simpa using cy
 have hkI:(k:Int)≤64:=by omega
 have hk0:(0:Int)≤(k:Int):=by omega
 have hcI:(k:Int) < (k:Int)+1:=by omega
 have hlI:(l.low:Int)≤2147483647:=by omega
 have hsI:(l.size:Int)≤64:=by omega
 have hkm:(k:Int)+1 - 1=(k:Int):=by omega
 have hopI:((l.low+k:Nat):Int)=(l.low:Int)+(k:Int):=by omega
 rw [hopI] at OP
 have hcmp:decide (l.size≤k)=false:=by simp; omega
 have add:∀ W,(Op.stringOp .add ⟨#[]⟩ t).run Tryz.prog W=.ok (.string t) W:=fun W=>by
  rw [run_string_add_sum W _ _ (by show 0+t.size≤_; omega)]
  congr 2
 have hat:(((l.low+k)*128:Nat):Int)=((l.low:Int)+k)*128:=by omega
 unfold AppR
 rw [hat]
 have HP:=Lib.hid hp
 clear hl hm hf hb0 h hat hp hl31 h64 hk hopI hcap hcm ht2
 unfold recV
 go_enter Tryz.func12,Tryz.ntmps12
 have b0:=B0.out
 go_wp2_with (refine wpList_load_row rfl 46 _ rfl w.heap.size rfl 46 _ (0,0) _ b0 Tryz.underlying46 rfl (by kernel_rfl) ?_)
 refine MY.out.mono ?_
 rintro e w1 ⟨rfl,hb1⟩
 have HB1:=Lib.hid (below2 HB.out hb1)
 have b1:=B0.out.keep hb1 B0.out.lt
 clear hb1 MY HB b0 B0
 go_wp2_with (refine wpList_load_row rfl 46 _ rfl w.heap.size rfl 46 _ (0,0) _ b1 Tryz.underlying46 rfl (by kernel_rfl) ?_)
 refine (PR.out _ HB1.out).mono ?_
 rintro e w2 ⟨rfl,hb2⟩
 have HB2:=Lib.hid (below2 HB1.out hb2)
 clear hb2 PR b1 HB1
 obtain ⟨c2,c3,c6,cy⟩:=C.out _ HB2.out
 go_upto_region 6 with fail
 generalize w2=w3 at *
 refine' wp_region_conf 12 (.is _::.is _::.is _::.is _::.is _::.is _::.is _::.is _::.is _::.is _::.is _::.is _::[]) (by kernel_rfl) (by kernel_rfl) (by kernel_rfl) (by kernel_rfl) rfl ?main
 case main =>
 iterate 12
  apply obs_step
  · rfl
  ·intro w4 hE4 hk4
   have hb4:=below2 HB2.out ((Below.refl w3.heap.size w3).drew.trans hE4)
   obtain ⟨d2,d3,d6,dy⟩:=C.out w4 hb4
   clear hk4 hE4
   go_wp2_with (go_at_call 42; refine (OP.out _ hb4).mono ?_; rintro e w6 ⟨rfl,nd,rfl⟩)
   first
   | (refine post_eq ?_ (Below.refl _ _)
      simp only [Act.put,sA,sB,sC]
      try rfl
      done)
   | (refine post_eq ?_ (drewN_below _ _)
      simp only [Act.put,sA,sB,sC]
      try rfl
      done)
   | (refine post_eq ?_ hb5
      simp only [Act.put,sA,sB,sC]
      try rfl
      done)
  ·simp only [Act.put,sA,sB,sC]
   rfl
 refine obs_end fun w5 hE9 _=>?_
 have hb9:Below w3.heap.size w3 w5:=(Below.refl w3.heap.size w3).drew.trans hE9
 clear hE9
 have HB5:=Lib.hid (below2 HB2.out hb9)
 clear hb9 HB2 c2 c3 c6 cy
 change wpList _ _ _ _ _ _
 obtain ⟨c2,c3,c6,cy⟩:=C.out _ HB5.out
 go_upto_region 13 with fail
 clear c2 c3 c6 cy hcmp
 refine' wp_region_conf 13 (.is _::.is _::.is _::.is _::.is _::.is _::.is _::.is _::.is _::.is _::.is _::.is _::.is _::[]) (by kernel_rfl) (by kernel_rfl) (by kernel_rfl) (by kernel_rfl) rfl ?main
 case main =>
 iterate 13
  apply obs_step
  · rfl
  ·intro w4 hE4 hk4
   have hb4:=below2 HB5.out ((Below.refl w5.heap.size w5).drew.trans hE4)
   obtain ⟨d2,d3,d6,dy⟩:=C.out w4 hb4
   clear hk4 hE4
   go_wp2_with (go_at_call 42; refine (OP.out _ hb4).mono ?_; rintro e w6 ⟨rfl,nd,rfl⟩)
   first
   | (refine post_eq ?_ (Below.refl _ _)
      simp only [Act.put,sA,sB,sC]
      try rfl
      done)
   | (refine post_eq ?_ (drewN_below _ _)
      simp only [Act.put,sA,sB,sC]
      try rfl
      done)
   | (refine post_eq ?_ hb5
      simp only [Act.put,sA,sB,sC]
      try rfl
      done)
  ·simp only [Act.put,sA,sB,sC]
   rfl
 refine obs_end fun w7 hE9 _=>?_
 have hb9:Below w5.heap.size w5 w7:=(Below.refl w5.heap.size w5).drew.trans hE9
 clear hE9
 have HB7:=Lib.hid (below2 HB5.out hb9)
 clear hb9 HB5
 change wpList _ _ _ _ _ _
 obtain ⟨c2,c3,c6,cy⟩:=C.out _ HB7.out
 have r7:=RR.out.below HB7.out
 have fy:=r7.rows.frozenAt k
 obtain ⟨r8,s8⟩:=r7.stored k t
 rw [← HP.out,strs_put] at r8
 rw [HP.out] at r8
 have R8:=Lib.hid r8
 have S8:=Lib.hid ((Step.ofBelow (F:=F) HB7.out).trans s8)
 clear r7 r8 s8 c2 c3 HB7 C OP RR HP
 go_wp2
 go_ret2
 exact ⟨rfl,_,_,R8.out,S8.out⟩
set_option maxRecDepth 100000 in
set_option maxHeartbeats 16000000 in
theorem rlAppend_join (h:RLR w F g gd l vb (k+1) (pre++[u])) (hp:pre.length=k) (hv:IsRec w v r) (hf:Fit r) (hm:May r) (hl31:l.low≤2147483647) (h64:l.size≤64) (hk:k < l.size) (hu:0 < u.size) (hsum:u.size+(⟨(lay r).toArray⟩:ByteArray).size≤112) :
 Calls Tryz.prog 12 #[.pointer (some ⟨g,0,none⟩),v] w (AppR w F g gd l ((l.low+k)*128+u.size) 0 (k+1) (pre++[u++(⟨(lay r).toArray⟩:ByteArray)])):=by
 obtain ⟨vt,vp,rfl,hl⟩:=hv
 have hb0:Below w.heap.size w (w.alloc (.cells (recCells r vt vp) 46)):=(Below.refl _ _).alloc (Nat.le_refl _) _
 have B0:=Lib.hid (Blk.new w 46 (recCells r vt vp))
 have MY:Hid (Calls Tryz.prog 40 #[.agg (recCells r vt vp)] (w.alloc (.cells (recCells r vt vp) 46)) _):=refMay_any ⟨vt,vp,rfl,hl.keep hb0⟩ hf.sized true (by simp [hm])
 have PR:Hid (∀ W,Below w.heap.size w W→Calls Tryz.prog 41 #[.agg (recCells r vt vp)] W _):=fun W hW=>refPrint_any ⟨vt,vp,rfl,hl.keep hW⟩ hm
 have ht2:(⟨(lay r).toArray⟩:ByteArray).size≤112:=by have:=lay_short hm; simpa [ByteArray.size] using this
 generalize (⟨(lay r).toArray⟩:ByteArray)=t at *
 have ht112:(t.size:Int)≤112:=by omega
 have HB:=Lib.hid hb0
 obtain ⟨g2,cap,rfl,hcap,hcm⟩:=own_form h.rows (by omega)
 have RR:=Lib.hid h
 have OP:Hid (∀ W,Below w.heap.size w W→_):=fun W hW=>rlOpen_any (h.below hW) hl31 (by omega)
 have C:Hid (∀ W,Below w.heap.size w W→W.cell? ⟨g,2,none⟩=some (.int .i64 l.size)∧W.cell? ⟨g,3,none⟩=some (.int .i64 l.low)∧W.cell? ⟨g,6,none⟩=some (.slice (some ⟨g2,0,none⟩) (k+1) cap)∧W.cell? ⟨g2,k,none⟩=some (.string u)):=fun W hW=>by
  have r:=h.below hW
  obtain ⟨_,_,c2,c3,_,_,c6⟩:=r.cells
  refine ⟨c2,c3,c6,?_⟩
  have cy:=r.rows.cellAt k (by omega)
  rw [← hp,strs_last] at cy
  rw [← hp]
  simpa using cy
 have hkI:(k:Int)≤64:=by omega
 have hk0:(0:Int)≤(k:Int):=by omega
 have hcI:(k:Int) < (k:Int)+1:=by omega
 have hlI:(l.low:Int)≤2147483647:=by omega
 have hsI:(l.size:Int)≤64:=by omega
 have hkm:(k:Int)+1 - 1=(k:Int):=by omega
 have hopI:((l.low+k:Nat):Int)=(l.low:Int)+(k:Int):=by omega
 rw [hopI] at OP
 have hu1:=toList_pos hu
 have hsI2:(u.size:Int)+t.size≤112:=by omega
 have hu0:(0:Int)≤u.size:=by omega
 have add:∀ W,(Op.stringOp .add u t).run Tryz.prog W=.ok (.string (u++t)) W:=fun W=>run_string_add_sum W _ _ (by omega)
 have hat:(((l.low+k)*128+u.size:Nat):Int)=((l.low:Int)+k)*128+u.size:=by omega
 unfold AppR
 rw [hat]
 have HP:=Lib.hid hp
 clear hl hm hf hb0 h hat hp hl31 h64 hk hopI hcap hcm ht2 hu hsum hsI
 unfold recV
 go_enter Tryz.func12,Tryz.ntmps12
 have b0:=B0.out
 go_wp2_with (refine wpList_load_row rfl 46 _ rfl w.heap.size rfl 46 _ (0,0) _ b0 Tryz.underlying46 rfl (by kernel_rfl) ?_)
 refine MY.out.mono ?_
 rintro e w1 ⟨rfl,hb1⟩
 have HB1:=Lib.hid (below2 HB.out hb1)
 have b1:=B0.out.keep hb1 B0.out.lt
 clear hb1 MY HB b0 B0
 go_wp2_with (refine wpList_load_row rfl 46 _ rfl w.heap.size rfl 46 _ (0,0) _ b1 Tryz.underlying46 rfl (by kernel_rfl) ?_)
 refine (PR.out _ HB1.out).mono ?_
 rintro e w2 ⟨rfl,hb2⟩
 have HB2:=Lib.hid (below2 HB1.out hb2)
 clear hb2 PR b1 HB1
 obtain ⟨c2,c3,c6,cy⟩:=C.out _ HB2.out
 go_upto_region 13 with fail
 clear c2 c3 c6 cy
 refine' wp_region_conf 13 (.is _::.is _::.is _::.is _::.is _::.is _::.is _::.is _::.is _::.is _::.is _::.is _::.is _::[]) (by kernel_rfl) (by kernel_rfl) (by kernel_rfl) (by kernel_rfl) rfl ?main
 case main =>
 iterate 13
  apply obs_step
  · rfl
  ·intro w4 hE4 hk4
   have hb4:=below2 HB2.out ((Below.refl w2.heap.size w2).drew.trans hE4)
   obtain ⟨d2,d3,d6,dy⟩:=C.out w4 hb4
   clear hk4 hE4
   go_wp2_with (go_at_call 42; refine (OP.out _ hb4).mono ?_; rintro e w6 ⟨rfl,nd,rfl⟩)
   first
   | (refine post_eq ?_ (Below.refl _ _)
      simp only [Act.put,sA,sB,sC]
      try rfl
      done)
   | (refine post_eq ?_ (drewN_below _ _)
      simp only [Act.put,sA,sB,sC]
      try rfl
      done)
   | (refine post_eq ?_ hb5
      simp only [Act.put,sA,sB,sC]
      try rfl
      done)
  ·simp only [Act.put,sA,sB,sC]
   rfl
 refine obs_end fun w7 hE9 _=>?_
 have hb9:Below w2.heap.size w2 w7:=(Below.refl w2.heap.size w2).drew.trans hE9
 clear hE9
 have HB7:=Lib.hid (below2 HB2.out hb9)
 clear hb9 HB2
 change wpList _ _ _ _ _ _
 obtain ⟨c2,c3,c6,cy⟩:=C.out _ HB7.out
 have r7:=RR.out.below HB7.out
 have fy:=r7.rows.frozenAt k
 obtain ⟨r8,s8⟩:=r7.stored k (u++t)
 rw [← HP.out,strs_put] at r8
 rw [HP.out] at r8
 have R8:=Lib.hid r8
 have S8:=Lib.hid ((Step.ofBelow (F:=F) HB7.out).trans s8)
 clear r7 r8 s8 c2 c3 HB7 C OP RR HP
 go_wp2
 go_ret2
 exact ⟨rfl,_,_,R8.out,S8.out⟩
set_option maxRecDepth 100000 in
set_option maxHeartbeats 16000000 in
theorem rlAppend_full1 (h:RLR w F g gd l vb (k+1) (pre++[(⟨#[]⟩:ByteArray)])) (hp:pre.length=k) (hv:IsRec w v r) (hf:Fit r) (hm:May r) (hl31:l.low≤2147483647) (h64:l.size≤64) (hk:k=l.size) :
 Calls Tryz.prog 12 #[.pointer (some ⟨g,0,none⟩),v] w (AppR w F g gd l 0 5 (k+1) (pre++[(⟨#[]⟩:ByteArray)])):=by
 obtain ⟨vt,vp,rfl,hl⟩:=hv
 have hb0:Below w.heap.size w (w.alloc (.cells (recCells r vt vp) 46)):=(Below.refl _ _).alloc (Nat.le_refl _) _
 have B0:=Lib.hid (Blk.new w 46 (recCells r vt vp))
 have MY:Hid (Calls Tryz.prog 40 #[.agg (recCells r vt vp)] (w.alloc (.cells (recCells r vt vp) 46)) _):=refMay_any ⟨vt,vp,rfl,hl.keep hb0⟩ hf.sized true (by simp [hm])
 have PR:Hid (∀ W,Below w.heap.size w W→Calls Tryz.prog 41 #[.agg (recCells r vt vp)] W _):=fun W hW=>refPrint_any ⟨vt,vp,rfl,hl.keep hW⟩ hm
 have ht2:(⟨(lay r).toArray⟩:ByteArray).size≤112:=by have:=lay_short hm; simpa [ByteArray.size] using this
 generalize (⟨(lay r).toArray⟩:ByteArray)=t at *
 have ht112:(t.size:Int)≤112:=by omega
 have HB:=Lib.hid hb0
 obtain ⟨g2,cap,rfl,hcap,hcm⟩:=own_form h.rows (by omega)
 have RR:=Lib.hid h
 have OP:Hid (∀ W,Below w.heap.size w W→_):=fun W hW=>rlOpen_any (h.below hW) hl31 (by omega)
 have C:Hid (∀ W,Below w.heap.size w W→W.cell? ⟨g,2,none⟩=some (.int .i64 l.size)∧W.cell? ⟨g,3,none⟩=some (.int .i64 l.low)∧W.cell? ⟨g,6,none⟩=some (.slice (some ⟨g2,0,none⟩) (k+1) cap)∧W.cell? ⟨g2,k,none⟩=some (.string ⟨#[]⟩)):=fun W hW=>by
  have r:=h.below hW
  obtain ⟨_,_,c2,c3,_,_,c6⟩:=r.cells
  refine ⟨c2,c3,c6,?_⟩
  have cy:=r.rows.cellAt k (by omega)
  rw [← hp,strs_last] at cy
  rw [← hp]
  simpa using cy
 have hkI:(k:Int)≤64:=by omega
 have hk0:(0:Int)≤(k:Int):=by omega
 have hcI:(k:Int) < (k:Int)+1:=by omega
 have hlI:(l.low:Int)≤2147483647:=by omega
 have hsI:(l.size:Int)≤64:=by omega
 have hkm:(k:Int)+1 - 1=(k:Int):=by omega
 have hopI:((l.low+k:Nat):Int)=(l.low:Int)+(k:Int):=by omega
 rw [hopI] at OP
 have hcmp:decide (l.size≤k)=true:=by simp; omega
 have HP:=Lib.hid hp
 clear hl hm hf hb0 h hp hl31 h64 hk hopI hcap hcm ht2
 unfold recV
 go_enter Tryz.func12,Tryz.ntmps12
 have b0:=B0.out
 go_wp2_with (refine wpList_load_row rfl 46 _ rfl w.heap.size rfl 46 _ (0,0) _ b0 Tryz.underlying46 rfl (by kernel_rfl) ?_)
 refine MY.out.mono ?_
 rintro e w1 ⟨rfl,hb1⟩
 have HB1:=Lib.hid (below2 HB.out hb1)
 have b1:=B0.out.keep hb1 B0.out.lt
 clear hb1 MY HB b0 B0
 go_wp2_with (refine wpList_load_row rfl 46 _ rfl w.heap.size rfl 46 _ (0,0) _ b1 Tryz.underlying46 rfl (by kernel_rfl) ?_)
 refine (PR.out _ HB1.out).mono ?_
 rintro e w2 ⟨rfl,hb2⟩
 have HB2:=Lib.hid (below2 HB1.out hb2)
 clear hb2 PR b1 HB1
 obtain ⟨c2,c3,c6,cy⟩:=C.out _ HB2.out
 go_upto_region 6 with fail
 clear c2 c3 c6 cy
 refine' wp_region_conf 12 (.is _::.is _::.is _::.is _::.is _::.is _::.is _::.is _::.is _::.is _::.is _::.is _::[]) (by kernel_rfl) (by kernel_rfl) (by kernel_rfl) (by kernel_rfl) rfl ?main
 case main =>
 iterate 12
  apply obs_step
  · rfl
  ·intro w4 hE4 hk4
   have hb4:=below2 HB2.out ((Below.refl w2.heap.size w2).drew.trans hE4)
   obtain ⟨d2,d3,d6,dy⟩:=C.out w4 hb4
   clear hk4 hE4
   go_wp2_with (go_at_call 42; refine (OP.out _ hb4).mono ?_; rintro e w6 ⟨rfl,nd,rfl⟩)
   first
   | (refine post_eq ?_ (Below.refl _ _)
      simp only [Act.put,sA,sB,sC]
      try rfl
      done)
   | (refine post_eq ?_ (drewN_below _ _)
      simp only [Act.put,sA,sB,sC]
      try rfl
      done)
   | (refine post_eq ?_ hb5
      simp only [Act.put,sA,sB,sC]
      try rfl
      done)
  ·simp only [Act.put,sA,sB,sC]
   rfl
 refine obs_end fun w5 hE9 _=>?_
 have hb9:Below w2.heap.size w2 w5:=(Below.refl w2.heap.size w2).drew.trans hE9
 clear hE9
 have HB5:=Lib.hid (below2 HB2.out hb9)
 clear hb9 HB2
 change wpList _ _ _ _ _ _
 go_wp2
 go_ret2
 exact ⟨rfl,_,_,RR.out.below HB5.out,.ofBelow HB5.out⟩
set_option maxRecDepth 100000 in
set_option maxHeartbeats 16000000 in
theorem rlAppend_full2 (h:RLR w F g gd l vb (k+1) (pre++[u])) (hp:pre.length=k) (hv:IsRec w v r) (hf:Fit r) (hm:May r) (hl31:l.low≤2147483647) (h64:l.size≤64) (hk:k+1=l.size) (hu:0 < u.size) (hu2:u.size≤112) (hsum:112 < u.size+(⟨(lay r).toArray⟩:ByteArray).size) :
 Calls Tryz.prog 12 #[.pointer (some ⟨g,0,none⟩),v] w (AppR w F g gd l 0 5 (k+1) (pre++[u])):=by
 obtain ⟨vt,vp,rfl,hl⟩:=hv
 have hb0:Below w.heap.size w (w.alloc (.cells (recCells r vt vp) 46)):=(Below.refl _ _).alloc (Nat.le_refl _) _
 have B0:=Lib.hid (Blk.new w 46 (recCells r vt vp))
 have MY:Hid (Calls Tryz.prog 40 #[.agg (recCells r vt vp)] (w.alloc (.cells (recCells r vt vp) 46)) _):=refMay_any ⟨vt,vp,rfl,hl.keep hb0⟩ hf.sized true (by simp [hm])
 have PR:Hid (∀ W,Below w.heap.size w W→Calls Tryz.prog 41 #[.agg (recCells r vt vp)] W _):=fun W hW=>refPrint_any ⟨vt,vp,rfl,hl.keep hW⟩ hm
 have ht2:(⟨(lay r).toArray⟩:ByteArray).size≤112:=by have:=lay_short hm; simpa [ByteArray.size] using this
 generalize (⟨(lay r).toArray⟩:ByteArray)=t at *
 have ht112:(t.size:Int)≤112:=by omega
 have HB:=Lib.hid hb0
 obtain ⟨g2,cap,rfl,hcap,hcm⟩:=own_form h.rows (by omega)
 have RR:=Lib.hid h
 have OP:Hid (∀ W,Below w.heap.size w W→_):=fun W hW=>rlOpen_any (h.below hW) hl31 (by omega)
 have C:Hid (∀ W,Below w.heap.size w W→W.cell? ⟨g,2,none⟩=some (.int .i64 l.size)∧W.cell? ⟨g,3,none⟩=some (.int .i64 l.low)∧W.cell? ⟨g,6,none⟩=some (.slice (some ⟨g2,0,none⟩) (k+1) cap)∧W.cell? ⟨g2,k,none⟩=some (.string u)):=fun W hW=>by
  have r:=h.below hW
  obtain ⟨_,_,c2,c3,_,_,c6⟩:=r.cells
  refine ⟨c2,c3,c6,?_⟩
  have cy:=r.rows.cellAt k (by omega)
  rw [← hp,strs_last] at cy
  rw [← hp]
  simpa using cy
 have hkI:(k:Int)≤64:=by omega
 have hk0:(0:Int)≤(k:Int):=by omega
 have hcI:(k:Int) < (k:Int)+1:=by omega
 have hlI:(l.low:Int)≤2147483647:=by omega
 have hsI:(l.size:Int)≤64:=by omega
 have hkm:(k:Int)+1 - 1=(k:Int):=by omega
 have hopI:((l.low+k:Nat):Int)=(l.low:Int)+(k:Int):=by omega
 rw [hopI] at OP
 have hu1:=toList_pos hu
 have hsI2:(112:Int) < (u.size:Int)+t.size:=by omega
 have hu112:(u.size:Int)≤112:=by omega
 have hkI2:(l.low:Int)+l.size≤(l.low:Int)+k+1:=by omega
 have HP:=Lib.hid hp
 clear hl hm hf hb0 h hp hl31 h64 hk hopI hcap hcm ht2 hu hsum hu2
 unfold recV
 go_enter Tryz.func12,Tryz.ntmps12
 have b0:=B0.out
 go_wp2_with (refine wpList_load_row rfl 46 _ rfl w.heap.size rfl 46 _ (0,0) _ b0 Tryz.underlying46 rfl (by kernel_rfl) ?_)
 refine MY.out.mono ?_
 rintro e w1 ⟨rfl,hb1⟩
 have HB1:=Lib.hid (below2 HB.out hb1)
 have b1:=B0.out.keep hb1 B0.out.lt
 clear hb1 MY HB b0 B0
 go_wp2_with (refine wpList_load_row rfl 46 _ rfl w.heap.size rfl 46 _ (0,0) _ b1 Tryz.underlying46 rfl (by kernel_rfl) ?_)
 refine (PR.out _ HB1.out).mono ?_
 rintro e w2 ⟨rfl,hb2⟩
 have HB2:=Lib.hid (below2 HB1.out hb2)
 clear hb2 PR b1 HB1
 obtain ⟨c2,c3,c6,cy⟩:=C.out _ HB2.out
 go_upto_region 9 with fail
 clear c2 c3 c6 cy
 refine' wp_region_conf 13 (.is _::.is _::.is _::.is _::.is _::.is _::.is _::.is _::.is _::.is _::.is _::.is _::.is _::[]) (by kernel_rfl) (by kernel_rfl) (by kernel_rfl) (by kernel_rfl) rfl ?main
 case main =>
 iterate 13
  apply obs_step
  · rfl
  ·intro w4 hE4 hk4
   have hb4:=below2 HB2.out ((Below.refl w2.heap.size w2).drew.trans hE4)
   obtain ⟨d2,d3,d6,dy⟩:=C.out w4 hb4
   clear hk4 hE4
   go_wp2_with (go_at_call 42; refine (OP.out _ hb4).mono ?_; rintro e w6 ⟨rfl,nd,rfl⟩)
   first
   | (refine post_eq ?_ (Below.refl _ _)
      simp only [Act.put,sA,sB,sC]
      try rfl
      done)
   | (refine post_eq ?_ (drewN_below _ _)
      simp only [Act.put,sA,sB,sC]
      try rfl
      done)
   | (refine post_eq ?_ hb5
      simp only [Act.put,sA,sB,sC]
      try rfl
      done)
  ·simp only [Act.put,sA,sB,sC]
   rfl
 refine obs_end fun w5 hE9 _=>?_
 have hb9:Below w2.heap.size w2 w5:=(Below.refl w2.heap.size w2).drew.trans hE9
 clear hE9
 have HB5:=Lib.hid (below2 HB2.out hb9)
 clear hb9 HB2
 change wpList _ _ _ _ _ _
 go_wp2
 go_ret2
 exact ⟨rfl,_,_,RR.out.below HB5.out,.ofBelow HB5.out⟩
end
end Go.Proofs.YthkbcfhjmnpggaaGreat

namespace Go.Proofs.YthkbcfhjmnpggaaGreat
open Go.RowKit
section
variable {w:World} {F:Foot} {g gd k:Nat} {l:Wl} {vb v:Value} {pre:List ByteArray} {u:ByteArray} {r:Rc}
set_option maxRecDepth 100000 in
set_option maxHeartbeats 16000000 in
theorem rlAppend_new (h:RLR w F g gd l vb (k+1) (pre++[u])) (hp:pre.length=k) (hv:IsRec w v r) (hf:Fit r) (hm:May r) (hl31:l.low≤2147483647) (h64:l.size≤64) (hk:k+1 < l.size) (hu:0 < u.size) (hu2:u.size≤112) (hsum:112 < u.size+(⟨(lay r).toArray⟩:ByteArray).size) :
 Calls Tryz.prog 12 #[.pointer (some ⟨g,0,none⟩),v] w (AppR w F g gd l ((l.low+(k+1))*128) 0 (k+2) (pre++[u]++[(⟨(lay r).toArray⟩:ByteArray)])):=by
 obtain ⟨vt,vp,rfl,hl⟩:=hv
 have hb0:Below w.heap.size w (w.alloc (.cells (recCells r vt vp) 46)):=(Below.refl _ _).alloc (Nat.le_refl _) _
 have B0:=Lib.hid (Blk.new w 46 (recCells r vt vp))
 have MY:Hid (Calls Tryz.prog 40 #[.agg (recCells r vt vp)] (w.alloc (.cells (recCells r vt vp) 46)) _):=refMay_any ⟨vt,vp,rfl,hl.keep hb0⟩ hf.sized true (by simp [hm])
 have PR:Hid (∀ W,Below w.heap.size w W→Calls Tryz.prog 41 #[.agg (recCells r vt vp)] W _):=fun W hW=>refPrint_any ⟨vt,vp,rfl,hl.keep hW⟩ hm
 have ht2:(⟨(lay r).toArray⟩:ByteArray).size≤112:=by have:=lay_short hm; simpa [ByteArray.size] using this
 generalize (⟨(lay r).toArray⟩:ByteArray)=t at *
 have ht112:(t.size:Int)≤112:=by omega
 have HB:=Lib.hid hb0
 obtain ⟨g2,cap,rfl,hcap,hcm⟩:=own_form h.rows (by omega)
 have RR:=Lib.hid h
 have OP:Hid (∀ W,Below w.heap.size w W→_):=fun W hW=>rlOpen_any (h.below hW) hl31 (by omega)
 have C:Hid (∀ W,Below w.heap.size w W→W.cell? ⟨g,2,none⟩=some (.int .i64 l.size)∧W.cell? ⟨g,3,none⟩=some (.int .i64 l.low)∧W.cell? ⟨g,6,none⟩=some (.slice (some ⟨g2,0,none⟩) (k+1) cap)∧W.cell? ⟨g2,k,none⟩=some (.string u)):=fun W hW=>by
  have r:=h.below hW
  obtain ⟨_,_,c2,c3,_,_,c6⟩:=r.cells
  refine ⟨c2,c3,c6,?_⟩
  have cy:=r.rows.cellAt k (by omega)
  rw [← hp,strs_last] at cy
  rw [← hp]
  simpa using cy
 have hkI:(k:Int)≤64:=by omega
 have hk0:(0:Int)≤(k:Int):=by omega
 have hcI:(k:Int) < (k:Int)+1:=by omega
 have hlI:(l.low:Int)≤2147483647:=by omega
 have hsI:(l.size:Int)≤64:=by omega
 have hkm:(k:Int)+1 - 1=(k:Int):=by omega
 have hopI:((l.low+k:Nat):Int)=(l.low:Int)+(k:Int):=by omega
 rw [hopI] at OP
 have hu1:=toList_pos hu
 have hsI2:(112:Int) < (u.size:Int)+t.size:=by omega
 have hu112:(u.size:Int)≤112:=by omega
 have hcmp:¬ ((l.low:Int)+l.size≤(l.low:Int)+k+1):=by omega
 have add:∀ W,(Op.stringOp .add ⟨#[]⟩ t).run Tryz.prog W=.ok (.string t) W:=fun W=>by
  rw [run_string_add_sum W _ _ (by show 0+t.size≤_; omega)]
  congr 2
 have hat:(((l.low+(k+1))*128:Nat):Int)=((l.low:Int)+((k:Int)+1))*128:=by omega
 unfold AppR
 rw [hat]
 have HP:=Lib.hid hp
 have HL:=Lib.hid hl31
 have HK64:Hid (k≤64):=show k≤64 by omega
 clear hl hm hf hb0 h hat hp hl31 h64 hk hopI hcap hcm ht2 hu hsum hu2
 unfold recV
 go_enter Tryz.func12,Tryz.ntmps12
 have b0:=B0.out
 go_wp2_with (refine wpList_load_row rfl 46 _ rfl w.heap.size rfl 46 _ (0,0) _ b0 Tryz.underlying46 rfl (by kernel_rfl) ?_)
 refine MY.out.mono ?_
 rintro e w1 ⟨rfl,hb1⟩
 have HB1:=Lib.hid (below2 HB.out hb1)
 have b1:=B0.out.keep hb1 B0.out.lt
 clear hb1 MY HB b0 B0
 go_wp2_with (refine wpList_load_row rfl 46 _ rfl w.heap.size rfl 46 _ (0,0) _ b1 Tryz.underlying46 rfl (by kernel_rfl) ?_)
 refine (PR.out _ HB1.out).mono ?_
 rintro e w2 ⟨rfl,hb2⟩
 have HB2:=Lib.hid (below2 HB1.out hb2)
 clear hb2 PR b1 HB1
 obtain ⟨c2,c3,c6,cy⟩:=C.out _ HB2.out
 go_upto_region 9 with fail
 clear c2 c3 c6 cy
 refine' wp_region_conf 13 (.is _::.is _::.is _::.is _::.is _::.is _::.is _::.is _::.is _::.is _::.is _::.is _::.is _::[]) (by kernel_rfl) (by kernel_rfl) (by kernel_rfl) (by kernel_rfl) rfl ?main
 case main =>
 iterate 13
  apply obs_step
  · rfl
  ·intro w4 hE4 hk4
   have hb4:=below2 HB2.out ((Below.refl w2.heap.size w2).drew.trans hE4)
   obtain ⟨d2,d3,d6,dy⟩:=C.out w4 hb4
   clear hk4 hE4
   go_wp2_with (go_at_call 42; refine (OP.out _ hb4).mono ?_; rintro e w6 ⟨rfl,nd,rfl⟩)
   first
   | (refine post_eq ?_ (Below.refl _ _)
      simp only [Act.put,sA,sB,sC]
      try rfl
      done)
   | (refine post_eq ?_ (drewN_below _ _)
      simp only [Act.put,sA,sB,sC]
      try rfl
      done)
   | (refine post_eq ?_ hb5
      simp only [Act.put,sA,sB,sC]
      try rfl
      done)
  ·simp only [Act.put,sA,sB,sC]
   rfl
 refine obs_end fun w5 hE9 _=>?_
 have hb9:Below w2.heap.size w2 w5:=(Below.refl w2.heap.size w2).drew.trans hE9
 clear hE9
 have HB5:=Lib.hid (below2 HB2.out hb9)
 clear hb9 HB2
 change wpList _ _ _ _ _ _
 go_upto_region 11 with fail
 clear C hcmp
 have r4:=RR.out.below HB5.out
 have B5:Below w5.heap.size w5 (w5.alloc (.cells #[.string ⟨#[]⟩] 9)):=(Below.refl _ _).alloc (Nat.le_refl _) _
 have r5:=r4.below B5
 have BQ5:=Lib.hid (HB5.out.trans (B5.mono HB5.out.size))
 have c6:w5.cell? ⟨g,6,none⟩=some (.slice (some ⟨g2,0,none⟩) (k+1) cap):=r4.head.cell 6
 have lg:=r5.head.lt
 have nq6:=r5.vg
 have c65:(w5.alloc (.cells #[.string ⟨#[]⟩] 9)).cell? ⟨g,6,none⟩=some (.slice (some ⟨g2,0,none⟩) (k+1) cap):=r5.head.cell 6
 have z65:=r5.head.frozen 6
 obtain ⟨i0,hi0,hz0,hz1',hz2'⟩:=info_parts info_str
 have R5:=Lib.hid r5
 clear r4 r5 B5 HB5 RR OP
 go_wp2_with (at_builtin; refine wpList_append_lies _ rfl (.tmp 69) (.tmp 70) 62 rfl 0 9 i0 (.string ⟨#[]⟩) 1 16 Tryz.underlying62 hi0 hz0 hz1' hz2' rfl (by decide) _ _ _ rfl R5.out.rows ⟨w5.heap.size,0,none⟩ 1 1 [.string ⟨#[]⟩] rfl rfl (World.news_of_block (heap_alloc_new w5 _)) (by simp [Value.oneCell']) (by omega) (by simp only [maxLen]; omega) (by omega) (Nat.zero_le _) _ rfl ?_)
 intro gg cap w6 hown hgrow hat hlt6
 have z66:=(hgrow.frozen_far ⟨g,6,none⟩ lg (Ne.symm nq6)).trans z65
 have c66:=(hgrow.cell_far ⟨g,6,none⟩ lg (Ne.symm nq6)).trans c65
 obtain ⟨r7,s7⟩:=R5.out.pushed hown hgrow (by rw [World.size_alloc]; exact hat) hlt6
 have S7:=Lib.hid ((Step.ofBelow (F:=F) BQ5.out).trans s7)
 have R7:=Lib.hid r7
 clear hown hgrow hat hlt6 R5 BQ5 lg nq6 c65 z65 s7 r7 c6 hi0 hz0 hz1' hz2'
 go_upto_region 13 with (fail)
 clear z66 c66
 generalize w6.setCell ⟨g,6,none⟩ (.slice (some ⟨gg,0,none⟩) (k+1+1) cap)=w7 at *
 have HB0:=Lib.hid (Below.refl w7.heap.size w7)
 have OP:Hid (∀ W,Below w7.heap.size w7 W→_):=fun W hW=>rlOpen_any (R7.out.below hW) HL.out (by have:=HK64.out; omega)
 have hopI:((l.low+(k+1):Nat):Int)=(l.low:Int)+((k:Int)+1):=by omega
 rw [hopI] at OP
 have C:Hid (∀ W,Below w7.heap.size w7 W→W.cell? ⟨g,6,none⟩=some (.slice (some ⟨gg,0,none⟩) (k+1+1) cap)∧W.cell? ⟨gg,k+1,none⟩=some (.string ⟨#[]⟩)):=fun W hW=>by
  have r:=R7.out.below hW
  obtain ⟨_,_,_,_,_,_,c6⟩:=r.cells
  refine ⟨c6,?_⟩
  have cy:=r.rows.cellAt (k+1) (by omega)
  have e:k+1=(pre++[u]).length:=by simp [HP.out]
  rw [e,strs_last,← e] at cy
  simpa using cy
 have hcJ:(k:Int)+1 < (k:Int)+1+1:=by omega
 clear hopI
 refine' wp_region_conf 13 (.is _::.is _::.is _::.is _::.is _::.is _::.is _::.is _::.is _::.is _::.is _::.is _::.is _::[]) (by kernel_rfl) (by kernel_rfl) (by kernel_rfl) (by kernel_rfl) rfl ?main
 case main =>
 iterate 13
  apply obs_step
  · rfl
  ·intro w4 hE4 hk4
   have hb4:=below2 HB0.out ((Below.refl w7.heap.size w7).drew.trans hE4)
   obtain ⟨d6,dy⟩:=C.out w4 hb4
   clear hk4 hE4
   go_wp2_with (go_at_call 42; refine (OP.out _ hb4).mono ?_; rintro e w6 ⟨rfl,nd,rfl⟩)
   first
   | (refine post_eq ?_ (Below.refl _ _)
      simp only [Act.put,sA,sB,sC]
      try rfl
      done)
   | (refine post_eq ?_ (drewN_below _ _)
      simp only [Act.put,sA,sB,sC]
      try rfl
      done)
   | (refine post_eq ?_ hb5
      simp only [Act.put,sA,sB,sC]
      try rfl
      done)
  ·simp only [Act.put,sA,sB,sC]
   rfl
 refine obs_end fun w8 hE9 _=>?_
 have hb9:Below w7.heap.size w7 w8:=(Below.refl w7.heap.size w7).drew.trans hE9
 clear hE9
 have HB8:=Lib.hid hb9
 clear hb9 HB0
 change wpList _ _ _ _ _ _
 obtain ⟨c6,cy⟩:=C.out _ HB8.out
 have r7:=R7.out.below HB8.out
 have fy:=r7.rows.frozenAt (k+1)
 obtain ⟨r8,s8⟩:=r7.stored (k+1) t
 have e8:(pre++[u]++[(⟨#[]⟩:ByteArray)]).set (k+1) t=pre++[u]++[t]:=by
  have e:k+1=(pre++[u]).length:=by simp [HP.out]
  rw [e,strs_put]
 rw [e8] at r8
 have R8:=Lib.hid r8
 have S8:=Lib.hid (S7.out.trans ((Step.ofBelow HB8.out).trans s8))
 clear r7 r8 s8 e8 HB8 C OP R7 S7 HP HL HK64
 go_wp2
 go_ret2
 exact ⟨rfl,_,_,R8.out,S8.out⟩
end
end Go.Proofs.YthkbcfhjmnpggaaGreat

namespace Go.Proofs.YthkbcfhjmnpggaaGreat
open Go.RowKit
section
variable {w:World} {F:Foot} {g gd:Nat} {l l':Wl} {v:Value} {r:Rc}
theorem RLR.other {vb:Value} {n:Nat} {bs:List ByteArray} (h:RLR w F g gd l vb n bs) (hb:l'.base=l.base) (hs:l'.size=l.size) (hl:l'.low=l.low) (hf:l'.first=l.first) (he:l'.epoch=l.epoch):RLR w F g gd l' vb n bs:=by
 refine ⟨?_,h.rows,h.fg,h.fv,h.lt⟩
 have:=h.head
 unfold rlogCells at this ⊢
 rw [hb,hs,hl,hf,he]
 exact this
theorem lay_body (r:Rc):(⟨(lay r).toArray⟩:ByteArray)=bodyS [r]:=str_ext (by rw [bodyS_data]; simp [body])
theorem lay_size (r:Rc):(⟨(lay r).toArray⟩:ByteArray).size=(lay r).length:=by simp [ByteArray.size]
theorem body_app (x:List Rc) (r:Rc):bodyS x++(⟨(lay r).toArray⟩:ByteArray)=bodyS (x++[r]):=str_ext (by rw [ByteArray.data_append,Array.toList_append,bodyS_data,bodyS_data,body_snoc])
theorem rlAppend_any (h:IsRL w F g gd l) (hv:IsRec w v r) (hf:Fit r) :
 Calls Tryz.prog 12 #[.pointer (some ⟨g,0,none⟩),v] w fun e w'=>e=.returned (.tuple #[.int .i64 (l.app r).1,.int .i64 (l.app r).2.1])∧∃ F',IsRL w' F' g gd (l.app r).2.2∧Step F F' w w':=by
 obtain ⟨ok,vb,rr⟩:=h
 by_cases hm:May r
 ·have hok:=ok.put hm (lay_short hm)
  rw [Wl.app_may hm]
  simp only
  by_cases hi:l.first=l.end_
  ·have hj:¬ l.joins r:=fun hj=>by have:=hj.1; omega
   rw [Wl.B_idle hi] at rr
   rw [show (l.secs.map bodyS++[(⟨#[]⟩:ByteArray)]).length=l.secs.length+1 by simp] at rr
   by_cases hr:l.secs.length < l.size
   ·have hpu:l.put r = { l with secs:=l.secs++[[r]] }:=by unfold Wl.put; rw [if_neg hj,if_pos hr]
    have hpe:l.putE r=0:=by unfold Wl.putE; rw [if_neg hj,if_pos hr]
    have hpa:l.putAt r=l.end_*128:=by unfold Wl.putAt; rw [if_neg hj,if_pos hr]
    refine (rlAppend_first rr (by simp) hv hf hm ok.lm ok.s64 hr).mono ?_
    rintro e w' ⟨rfl,F',vb',hrl,hs⟩
    rw [hpe,hpa]
    refine ⟨rfl,F',⟨hok,vb',?_⟩,hs⟩
    have hB:(l.put r).B=l.secs.map bodyS++[(⟨(lay r).toArray⟩:ByteArray)]:=by
     rw [Wl.B_open (by rw [hpu]; unfold Wl.end_ at *; simp; omega),hpu,lay_body]; simp
    rw [hB,show (l.secs.map bodyS++[(⟨(lay r).toArray⟩:ByteArray)]).length=l.secs.length+1 by simp]
    exact hrl.other (by rw [hpu]) (by rw [hpu]) (by rw [hpu]) (by rw [hpu]) (by rw [hpu])
   ·have hpu:l.put r=l:=by unfold Wl.put; rw [if_neg hj,if_neg hr]
    have hpe:l.putE r=5:=by unfold Wl.putE; rw [if_neg hj,if_neg hr]
    have hpa:l.putAt r=0:=by unfold Wl.putAt; rw [if_neg hj,if_neg hr]
    refine (rlAppend_full1 rr (by simp) hv hf hm ok.lm ok.s64 (by have:=ok.len; omega)).mono ?_
    rintro e w' ⟨rfl,F',vb',hrl,hs⟩
    rw [hpe,hpa,hpu]
    refine ⟨rfl,F',⟨ok,vb',?_⟩,hs⟩
    rw [Wl.B_idle hi,show (l.secs.map bodyS++[(⟨#[]⟩:ByteArray)]).length=l.secs.length+1 by simp]
    exact hrl
  ·have hpos:0 < l.secs.length:=by have:=ok.fe; have:=ok.fl; unfold Wl.end_ at *; omega
   obtain ⟨i,x,e⟩:=Wl.snoc_of hpos
   have hlast:l.secs.getLastD []=x:=by rw [e,Wl.lastD_snoc]
   have hxs:=ok.sec x (by rw [e]; simp)
   have hx0:=body_pos hxs.2.1 hxs.1
   have hu:(bodyS x).size=(body x).length:=bodyS_size x
   have hlen:l.secs.length=i.length+1:=by rw [e]; simp
   have hend:l.end_=l.low+(i.length+1):=by unfold Wl.end_; rw [hlen]
   rw [Wl.B_open hi,e,List.map_append,List.map_singleton,show (i.map bodyS++[bodyS x]).length=i.length+1 by simp] at rr
   have hkl:i.length < l.size:=by have:=ok.len; omega
   by_cases hj:l.joins r
   ·have hpu:l.put r = { l with secs:=i++[x++[r]] }:=by unfold Wl.put; rw [if_pos hj,hlast]; simp [e]
    have hpe:l.putE r=0:=by unfold Wl.putE; rw [if_pos hj]
    have hpa:l.putAt r=(l.low+i.length)*128+(bodyS x).size:=by unfold Wl.putAt; rw [if_pos hj,hlast,hend,hu]; congr 2
    have hj2:=hj.2
    rw [hlast] at hj2
    refine (rlAppend_join rr (by simp) hv hf hm ok.lm ok.s64 hkl (by rw [hu]; exact hx0) (by rw [hu,lay_size]; exact hj2)).mono ?_
    rintro e' w' ⟨rfl,F',vb',hrl,hs⟩
    rw [hpe,hpa]
    refine ⟨rfl,F',⟨hok,vb',?_⟩,hs⟩
    have hB:(l.put r).B=i.map bodyS++[bodyS x++(⟨(lay r).toArray⟩:ByteArray)]:=by
     rw [Wl.B_open (by rw [hpu]; unfold Wl.end_ at *; simp; omega),hpu,body_app]; simp
    rw [hB,show (i.map bodyS++[bodyS x++(⟨(lay r).toArray⟩:ByteArray)]).length=i.length+1 by simp]
    exact hrl.other (by rw [hpu]) (by rw [hpu]) (by rw [hpu]) (by rw [hpu]) (by rw [hpu])
   ·have hov:112 < (body x).length+(lay r).length:=by
     unfold Wl.joins at hj
     rw [hlast] at hj
     have:=ok.fe
     omega
    by_cases hr:l.secs.length < l.size
    ·have hpu:l.put r = { l with secs:=l.secs++[[r]] }:=by unfold Wl.put; rw [if_neg hj,if_pos hr]
     have hpe:l.putE r=0:=by unfold Wl.putE; rw [if_neg hj,if_pos hr]
     have hpa:l.putAt r=(l.low+(i.length+1))*128:=by unfold Wl.putAt; rw [if_neg hj,if_pos hr,hend]
     refine (rlAppend_new rr (by simp) hv hf hm ok.lm ok.s64 (by omega) (by rw [hu]; exact hx0) (by rw [hu]; exact hxs.2.2) (by rw [hu,lay_size]; exact hov)).mono ?_
     rintro e' w' ⟨rfl,F',vb',hrl,hs⟩
     rw [hpe,hpa]
     refine ⟨rfl,F',⟨hok,vb',?_⟩,hs⟩
     have hB:(l.put r).B=i.map bodyS++[bodyS x]++[(⟨(lay r).toArray⟩:ByteArray)]:=by
      rw [Wl.B_open (by rw [hpu]; unfold Wl.end_; simp; have:=ok.fe; unfold Wl.end_ at this; omega),hpu,lay_body,e]; simp
     rw [hB,show (i.map bodyS++[bodyS x]++[(⟨(lay r).toArray⟩:ByteArray)]).length=i.length+2 by simp]
     exact hrl.other (by rw [hpu]) (by rw [hpu]) (by rw [hpu]) (by rw [hpu]) (by rw [hpu])
    ·have hpu:l.put r=l:=by unfold Wl.put; rw [if_neg hj,if_neg hr]
     have hpe:l.putE r=5:=by unfold Wl.putE; rw [if_neg hj,if_neg hr]
     have hpa:l.putAt r=0:=by unfold Wl.putAt; rw [if_neg hj,if_neg hr]
     refine (rlAppend_full2 rr (by simp) hv hf hm ok.lm ok.s64 (by have:=ok.len; omega) (by rw [hu]; exact hx0) (by rw [hu]; exact hxs.2.2) (by rw [hu,lay_size]; exact hov)).mono ?_
     rintro e' w' ⟨rfl,F',vb',hrl,hs⟩
     rw [hpe,hpa,hpu]
     refine ⟨rfl,F',⟨ok,vb',?_⟩,hs⟩
     rw [Wl.B_open hi,e,List.map_append,List.map_singleton,show (i.map bodyS++[bodyS x]).length=i.length+1 by simp]
     exact hrl
 ·rw [Wl.app_not hm]
  refine (rlAppend_bad rr hv hf hm).mono ?_
  rintro e w' ⟨rfl,F',vb',hrl,hs⟩
  exact ⟨rfl,F',⟨ok,vb',hrl⟩,hs⟩
end
end Go.Proofs.YthkbcfhjmnpggaaGreat
