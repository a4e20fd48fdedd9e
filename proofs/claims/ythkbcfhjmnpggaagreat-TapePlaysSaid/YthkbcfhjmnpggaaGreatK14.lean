/- Texts that belong together, joined: WalB, EntQ, RecAll. -/
import Derived.Test.YthkbcfhjmnpggaaGreatK11
import Derived.Test.YthkbcfhjmnpggaaGreatK13
import Derived.Laws.Concat
import Derived.Deep.AppendLies
import Derived.IntWalk
import Derived.Test.YthkbcfhjmnpggaaGreatK08
import Derived.Test.YthkbcfhjmnpggaaGreatK12
namespace Go.Proofs.YthkbcfhjmnpggaaGreat
open Go.RowKit
def AppOut (w:World) (F:Foot) (g gd:Nat) (at_ er:Nat) (l':Wl) (e:Ending) (w':World):Prop :=
 e=.returned (.tuple #[.int .i64 at_,.int .i64 er])∧∃ F',IsLog w' F' g gd l'∧Step F F' w w'
theorem toList_pos {u:ByteArray} (h:0 < u.size):(u.toList == [])=false:=by
 rw [ByteArray.toList_eq]
 have h2:0 < u.data.toList.length:=h
 cases hc:u.data.toList with
 | nil=>rw [hc] at h2; simp at h2
 | cons a b=>rfl
theorem info_str:(Tryz.prog.info? 9).map (fun i=>(i.zero,i.size,i.bytes))=some (some (.string ⟨#[]⟩),1,16):=by kernel_rfl
section
variable {w:World} {F:Foot} {g gd:Nat} {l:Wl} {v:Value} {r:Rc}
set_option maxRecDepth 100000 in
set_option maxHeartbeats 4000000 in
theorem append_bad (h:IsLog w F g gd l) (hv:IsRec w v r) (hf:Fit r) (hm:¬ May r) :
 Calls Tryz.prog 11 #[.pointer (some ⟨g,0,none⟩),v] w (AppOut w F g gd 0 1 l):=by
 obtain ⟨vt,vp,rfl,hl⟩:=hv
 have hb0:Below w.heap.size w (w.alloc (.cells (recCells r vt vp) 46)):=(Below.refl _ _).alloc (Nat.le_refl _) _
 have B0:=Blk.new w 46 (recCells r vt vp)
 have PR:Hid (Calls Tryz.prog 38 #[.agg (recCells r vt vp)] _ _):=print_no ⟨vt,vp,rfl,hl.keep hb0⟩ hf hm
 have HB:=Lib.hid hb0
 have HI:=Lib.hid h
 clear hl hf hm hb0 h
 unfold recV
 go_enter Tryz.func11,Tryz.ntmps11
 go_wp2_with (refine wpList_load_row rfl 46 _ rfl w.heap.size rfl 46 _ (0,0) _ B0 Tryz.underlying46 rfl (by kernel_rfl) ?_)
 refine PR.out.mono ?_
 rintro e w1 ⟨rfl,hb1⟩
 have HB1:=Lib.hid (below2 HB.out hb1)
 clear hb1 PR HB B0
 go_wp2
 go_ret2
 exact ⟨rfl,F,HI.out.below HB1.out,.ofBelow HB1.out⟩
set_option maxRecDepth 100000 in
set_option maxHeartbeats 4000000 in
theorem append_join (h:IsLog w F g gd l) (hv:IsRec w v r) (hm:May r) (hj:l.joins r) :
 Calls Tryz.prog 11 #[.pointer (some ⟨g,0,none⟩),v] w (AppOut w F g gd (l.putAt r) 0 (l.put r)):=by
 obtain ⟨vt,vp,rfl,hl⟩:=hv
 have hput:=h.1.put hm (lay_short hm)
 have hne:¬ l.end_=l.first:=by have:=hj.1; omega
 have hpos:0 < l.secs.length:=by have:=hj.1; have:=h.1.fl; unfold Wl.end_ at *; omega
 have hb0:Below w.heap.size w (w.alloc (.cells (recCells r vt vp) 46)):=(Below.refl _ _).alloc (Nat.le_refl _) _
 have B0:=Blk.new w 46 (recCells r vt vp)
 have PR:Hid (Calls Tryz.prog 38 #[.agg (recCells r vt vp)] _ _):=print_yes ⟨vt,vp,rfl,hl.keep hb0⟩ hm
 have OP:Hid (∀ W,Below w.heap.size w W→Calls Tryz.prog 39 #[.pointer (some ⟨g,0,none⟩)] W (Peeks W (.tuple #[.int .i64 l.openNo,.string (bodyS l.openRs)]))):=fun W hW=>open_any (h.below hW)
 obtain ⟨i,x,e⟩:=Wl.snoc_of hpos
 have hlast:l.secs.getLastD []=x:=by rw [e,Wl.lastD_snoc]
 have hno:l.openNo=l.end_ - 1:=by unfold Wl.openNo; rw [if_neg hne]
 have hrs:l.openRs=x:=by unfold Wl.openRs; rw [if_neg hne,hlast]
 rw [hno,hrs] at OP
 have hxs:=h.1.sec x (by rw [e]; simp)
 have hx0:=body_pos hxs.2.1 hxs.1
 have hj2:=hj.2
 rw [hlast] at hj2
 have hpa:l.putAt r=(l.end_ - 1)*128+(body x).length:=by unfold Wl.putAt; rw [if_pos hj,hlast]
 have hpu:l.put r = { l with secs:=i++[x++[r]] }:=by unfold Wl.put; rw [if_pos hj,hlast]; simp [e]
 have hu:(bodyS x).size=(body x).length:=bodyS_size x
 have ht:(⟨(lay r).toArray⟩:ByteArray).size=(lay r).length:=by simp [ByteArray.size]
 have hcat:bodyS x++(⟨(lay r).toArray⟩:ByteArray)=bodyS (x++[r]):=str_ext (by rw [ByteArray.data_append,Array.toList_append,bodyS_data,bodyS_data,body_snoc])
 rw [hpa]
 rw [← hu] at hx0 hj2 ⊢
 rw [← ht] at hj2
 have HCAT:=Lib.hid hcat
 have HPU:=Lib.hid hpu
 have HOK:=Lib.hid hput
 have HE:=Lib.hid e
 have HB:=Lib.hid hb0
 obtain ⟨ok,vb,rr⟩:=h
 have hlen:=ok.len
 have h64:=ok.s64
 have hzm:l.end_ - 1≤2147483711:=by have:=ok.lm; unfold Wl.end_; omega
 have RR:=Lib.hid rr
 have hiy:l.secs.length=i.length+1:=by rw [e]; simp
 clear hl hm hb0 hno hrs hxs hpa hpu hu ht hcat e hlast hj hne hput ok
 unfold recV
 generalize (⟨(lay r).toArray⟩:ByteArray)=t at *
 generalize bodyS x=u at *
 generalize l.end_ - 1=z at *
 have add:∀ W,(Op.stringOp .add u t).run Tryz.prog W=.ok (.string (u++t)) W:=fun W=>run_string_add_sum W _ _ (by omega)
 have hu1:=toList_pos hx0
 have hsum:(u.size:Int)+t.size≤112:=by omega
 have hzi:(z:Int)≤2147483711:=by omega
 go_enter Tryz.func11,Tryz.ntmps11
 go_wp2_with (refine wpList_load_row rfl 46 _ rfl w.heap.size rfl 46 _ (0,0) _ B0 Tryz.underlying46 rfl (by kernel_rfl) ?_)
 refine PR.out.mono ?_
 rintro e w1 ⟨rfl,hb1⟩
 have HB1:=Lib.hid (below2 HB.out hb1)
 clear hb1 PR HB B0
 go_wp2_with fail
 refine (OP.out _ HB1.out).mono ?_
 rintro e w2 ⟨rfl,nd,rfl⟩
 have HB2:=Lib.hid (HB1.out.trans ((drewN_below w1 nd).mono HB1.out.size))
 clear HB1 OP
 go_upto_region 13 with (fail)
 have r2:LogR (w1.drewN nd) F g gd l vb (i.length+1) (l.secs.map bodyS):=by rw [← hiy]; exact RR.out.below HB2.out
 have hyi:(i.length:Int)+1≤64:=by omega
 clear hlen h64 hiy rr hpos hj2 hx0 hzm RR
 generalize w1.drewN nd=w3 at *
 obtain ⟨g2,cap,rfl,hcap,hcm⟩:=own_form r2.rows (by omega)
 obtain ⟨_,_,_,_,_,_,c6⟩:=r2.cells
 have cy:=r2.rows.cellAt i.length (by omega)
 have fy:=r2.rows.frozenAt i.length
 rw [HE.out] at cy
 simp [strsV] at cy
 have g0:(i.length:Int) < (i.length:Int)+1:=by omega
 have hw1:IntKind.i64.wrap (i.length:Int)=(i.length:Int):=IntWalk.i64_in _ (by omega)
 obtain ⟨r3,s3⟩:=r2.drew.stored i.length (u++t)
 have hbs:(l.secs.map bodyS).set i.length (u++t)=(l.put r).secs.map bodyS:=by
  rw [HPU.out,HE.out,HCAT.out]
  simp
 have hln:(l.put r).secs.length=i.length+1:=by rw [HPU.out]; simp
 have hlc:logCells gd l (.slice (some ⟨g2,0,none⟩) (i.length+1) cap)=logCells gd (l.put r) (.slice (some ⟨g2,0,none⟩) (i.length+1) cap):=by rw [HPU.out]; rfl
 rw [hbs] at r3
 have R3:Hid (IsLog (w3.drew.setCell ⟨g2,i.length,none⟩ (.string (u++t))) F g gd (l.put r)):=⟨HOK.out,_,⟨by rw [← hlc]; exact r3.head,by rw [hln]; exact r3.rows,r3.fg,r3.fv,r3.lt⟩⟩
 have S3:=Lib.hid ((Step.ofBelow (F:=F) HB2.out).trans ((Step.refl F w3).drew.trans s3))
 clear r2 r3 s3 hbs hln hlc HPU HOK HE HCAT HB2 hcap hcm
 go_still_tail 14,(by kernel_rfl)
 go_wp2
 go_ret2
 exact ⟨by rw [show ((z*128+u.size:Nat):Int)=(z:Int)*128+(u.size:Int) from by omega]; rfl,F,R3.out,S3.out⟩
set_option maxRecDepth 100000 in
set_option maxHeartbeats 8000000 in
theorem append_new1 (h:IsLog w F g gd l) (hv:IsRec w v r) (hm:May r) (hj:¬ l.joins r) (hne:l.end_=l.first) (hroom:l.secs.length < l.size) :
 Calls Tryz.prog 11 #[.pointer (some ⟨g,0,none⟩),v] w (AppOut w F g gd (l.putAt r) 0 (l.put r)):=by
 obtain ⟨vt,vp,rfl,hl⟩:=hv
 have hput:=h.1.put hm (lay_short hm)
 have hb0:Below w.heap.size w (w.alloc (.cells (recCells r vt vp) 46)):=(Below.refl _ _).alloc (Nat.le_refl _) _
 have B0:=Blk.new w 46 (recCells r vt vp)
 have PR:Hid (Calls Tryz.prog 38 #[.agg (recCells r vt vp)] _ _):=print_yes ⟨vt,vp,rfl,hl.keep hb0⟩ hm
 have OP:Hid (∀ W,Below w.heap.size w W→Calls Tryz.prog 39 #[.pointer (some ⟨g,0,none⟩)] W (Peeks W (.tuple #[.int .i64 l.openNo,.string (bodyS l.openRs)]))):=fun W hW=>open_any (h.below hW)
 have hend:l.end_=l.low+l.secs.length:=rfl
 have ht:(⟨(lay r).toArray⟩:ByteArray).size=(lay r).length:=by simp [ByteArray.size]
 have ht2:=lay_short hm
 have htb:(⟨(lay r).toArray⟩:ByteArray)=bodyS [r]:=str_ext (by rw [bodyS_data]; simp [body])
 have hno:l.openNo=l.end_:=by unfold Wl.openNo; rw [if_pos hne]
 have hrs:l.openRs = []:=by unfold Wl.openRs; rw [if_pos hne]
 rw [hno,hrs,show bodyS []=⟨#[]⟩ from rfl] at OP
 have HTB:=Lib.hid htb
 have HOK:=Lib.hid hput
 have HB:=Lib.hid hb0
 obtain ⟨ok,vb,rr⟩:=h
 have hlen:=ok.len
 have h64:=ok.s64
 have hlm:=ok.lm
 have RR:=Lib.hid rr
 rw [← ht] at ht2
 have hpu:l.put r = { l with secs:=l.secs++[[r]] }:=by unfold Wl.put; rw [if_neg hj,if_pos hroom]
 have hpa:l.putAt r=l.end_*128:=by unfold Wl.putAt; rw [if_neg hj,if_pos hroom]
 rw [hpa]
 have HPU:=Lib.hid hpu
 clear hpu hpa
 generalize (⟨(lay r).toArray⟩:ByteArray)=t at *
 have hzi:(l.end_:Int)≤2147483711:=by omega
 have hcmp:¬ ((l.low:Int)+l.size≤(l.end_:Int)):=by omega
 have hzl:(l.low:Int)≤2147483647:=by omega
 have hzs:(l.size:Int)≤64:=by omega
 have hlen2:l.secs.length≤64:=by omega
 have LC:=Lib.hid (rr.cells)
 clear hl hm hb0 hput ht htb hj ok rr hend hlen hlm h64 hroom hno hrs hne
 generalize l.end_=z at *
 have add:∀ W,(Op.stringOp .add ⟨#[]⟩ t).run Tryz.prog W=.ok (.string t) W:=fun W=>by
  rw [run_string_add_sum W _ _ (by show 0+t.size≤_; omega)]
  congr 2
 have HT2:=Lib.hid ht2
 clear ht2
 unfold recV
 go_enter Tryz.func11,Tryz.ntmps11
 go_wp2_with (refine wpList_load_row rfl 46 _ rfl w.heap.size rfl 46 _ (0,0) _ B0 Tryz.underlying46 rfl (by kernel_rfl) ?_)
 refine PR.out.mono ?_
 rintro e w1 ⟨rfl,hb1⟩
 have HB1:=Lib.hid (below2 HB.out hb1)
 clear hb1 PR HB B0
 go_wp2_with fail
 refine (OP.out _ HB1.out).mono ?_
 rintro e w2 ⟨rfl,nd,rfl⟩
 have HB2:=Lib.hid (HB1.out.trans ((drewN_below w1 nd).mono HB1.out.size))
 clear HB1 OP
 go_upto_region 10 with (fail)
 have r2:=RR.out.below HB2.out
 clear LC
 generalize w1.drewN nd=w3 at *
 obtain ⟨va,vc,hvs⟩:=own_slice r2.rows
 subst hvs
 obtain ⟨_,_,c2,_,c4,_,c6⟩:=r2.cells
 have R2:=Lib.hid r2
 clear r2
 go_quiet (fail)
 have r4:=R2.out.below (drewN_below w3 nq)
 have BQ:=Lib.hid (HB2.out.trans ((drewN_below w3 nq).mono HB2.out.size))
 have e2:=R2.out.head
 clear R2 HB2 c2 c4 c6
 go_upto_region 12 with (fail)
 generalize w3.drewN nq=w4 at *
 have B5:Below w4.heap.size w4 (w4.alloc (.cells #[.string ⟨#[]⟩] 9)):=(Below.refl _ _).alloc (Nat.le_refl _) _
 have r5:=r4.below B5
 have BQ5:=Lib.hid (BQ.out.trans (B5.mono BQ.out.size))
 have c6:=r4.head.cell 6
 simp [logCells] at c6
 have lg:=r5.head.lt
 have nq6:=r5.vg
 have c65:=r5.head.cell 6
 simp [logCells] at c65
 have z65:=r5.head.frozen 6
 obtain ⟨i0,hi0,hz0,hz1',hz2'⟩:=info_parts info_str
 have R5:=Lib.hid r5
 clear r4 r5 B5 BQ
 go_wp2_with (at_builtin; refine wpList_append_lies _ rfl (.tmp 53) (.tmp 54) 62 rfl 0 9 i0 (.string ⟨#[]⟩) 1 16 Tryz.underlying62 hi0 hz0 hz1' hz2' rfl (by decide) _ _ _ rfl R5.out.rows ⟨w4.heap.size,0,none⟩ 1 1 [.string ⟨#[]⟩] rfl rfl (World.news_of_block (heap_alloc_new w4 _)) (by simp [Value.oneCell']) (by omega) (by simp only [maxLen]; omega) (by omega) (Nat.zero_le _) _ rfl ?_)
 intro gg cap w6 hown hgrow hat hlt6
 have z66:=(hgrow.frozen_far ⟨g,6,none⟩ lg (Ne.symm nq6)).trans z65
 have c66:=(hgrow.cell_far ⟨g,6,none⟩ lg (Ne.symm nq6)).trans c65
 obtain ⟨r7,s7⟩:=R5.out.pushed hown hgrow (by rw [World.size_alloc]; exact hat) hlt6
 have S7:=Lib.hid ((Step.ofBelow (F:=F) BQ5.out).trans s7)
 have R7:=Lib.hid r7
 clear hown hgrow hat hlt6 R5 BQ5 lg nq6 c65 z65 s7 r7 c6 hi0 hz0 hz1' hz2' e2
 go_upto_region 13 with (fail)
 clear z66 c66
 generalize w6.setCell ⟨g,6,none⟩ (.slice (some ⟨gg,0,none⟩) (l.secs.length+1) cap)=w7 at *
 have r7:=R7.out
 obtain ⟨_,_,_,_,_,_,c6⟩:=r7.cells
 have cy:=r7.rows.cellAt l.secs.length (by omega)
 have fy:=r7.rows.frozenAt l.secs.length
 rw [show (strsV (l.secs.map bodyS++[(⟨#[]⟩:ByteArray)]))[l.secs.length]? = some (.string ⟨#[]⟩) by simp [strsV]] at cy
 have hli:(l.secs.length:Int)≤64:=by omega
 have g0:(l.secs.length:Int) < (l.secs.length:Int)+1:=by omega
 have hw1:IntKind.i64.wrap (l.secs.length:Int)=(l.secs.length:Int):=IntWalk.i64_in _ (by omega)
 obtain ⟨r8,s8⟩:=r7.drew.stored l.secs.length t
 have hbs:(l.secs.map bodyS++[(⟨#[]⟩:ByteArray)]).set l.secs.length t=(l.put r).secs.map bodyS:=by
  rw [HPU.out,HTB.out]
  simp
 have hln:(l.put r).secs.length=l.secs.length+1:=by rw [HPU.out]; simp
 have hlc:logCells gd l (.slice (some ⟨gg,0,none⟩) (l.secs.length+1) cap)=logCells gd (l.put r) (.slice (some ⟨gg,0,none⟩) (l.secs.length+1) cap):=by rw [HPU.out]; rfl
 rw [hbs] at r8
 have R8:Hid (IsLog (w7.drew.setCell ⟨gg,l.secs.length,none⟩ (.string t)) (fun b=>F b∨b=gg) g gd (l.put r)):=⟨HOK.out,_,⟨by rw [← hlc]; exact r8.head,by rw [hln]; exact r8.rows,r8.fg,r8.fv,r8.lt⟩⟩
 have S8:=Lib.hid (S7.out.trans ((Step.refl _ w7).drew.trans s8))
 clear r7 r8 s8 hbs hln hlc HPU HOK HTB R7 S7
 generalize l.secs.length=y at *
 go_still_tail 14,(by kernel_rfl)
 go_wp2
 go_ret2
 exact ⟨by rw [show ((z*128:Nat):Int)=(z:Int)*128 from by omega]; rfl,_,R8.out,S8.out⟩
set_option maxRecDepth 100000 in
set_option maxHeartbeats 8000000 in
theorem append_new2 (h:IsLog w F g gd l) (hv:IsRec w v r) (hm:May r) (hj:¬ l.joins r) (hne:¬ l.end_=l.first) (hroom:l.secs.length < l.size) :
 Calls Tryz.prog 11 #[.pointer (some ⟨g,0,none⟩),v] w (AppOut w F g gd (l.putAt r) 0 (l.put r)):=by
 obtain ⟨vt,vp,rfl,hl⟩:=hv
 have hput:=h.1.put hm (lay_short hm)
 have hb0:Below w.heap.size w (w.alloc (.cells (recCells r vt vp) 46)):=(Below.refl _ _).alloc (Nat.le_refl _) _
 have B0:=Blk.new w 46 (recCells r vt vp)
 have PR:Hid (Calls Tryz.prog 38 #[.agg (recCells r vt vp)] _ _):=print_yes ⟨vt,vp,rfl,hl.keep hb0⟩ hm
 have OP:Hid (∀ W,Below w.heap.size w W→Calls Tryz.prog 39 #[.pointer (some ⟨g,0,none⟩)] W (Peeks W (.tuple #[.int .i64 l.openNo,.string (bodyS l.openRs)]))):=fun W hW=>open_any (h.below hW)
 have hend:l.end_=l.low+l.secs.length:=rfl
 have ht:(⟨(lay r).toArray⟩:ByteArray).size=(lay r).length:=by simp [ByteArray.size]
 have ht2:=lay_short hm
 have htb:(⟨(lay r).toArray⟩:ByteArray)=bodyS [r]:=str_ext (by rw [bodyS_data]; simp [body])
 have hpos:0 < l.secs.length:=by have:=h.1.fe; have:=h.1.fl; unfold Wl.end_ at *; omega
 obtain ⟨i,x,e⟩:=Wl.snoc_of hpos
 have hlast:l.secs.getLastD []=x:=by rw [e,Wl.lastD_snoc]
 have hno:l.openNo=l.end_ - 1:=by unfold Wl.openNo; rw [if_neg hne]
 have hrs:l.openRs=x:=by unfold Wl.openRs; rw [if_neg hne,hlast]
 rw [hno,hrs] at OP
 have hxs:=h.1.sec x (by rw [e]; simp)
 have hx0:=body_pos hxs.2.1 hxs.1
 have hx2:=hxs.2.2
 have hov:112 < (body x).length+(lay r).length:=by
  unfold Wl.joins at hj
  rw [hlast] at hj
  have:=h.1.fe
  have h2:l.first < l.end_:=by omega
  omega
 have hu:(bodyS x).size=(body x).length:=bodyS_size x
 rw [← hu] at hx0 hov hx2
 rw [← ht] at hov
 have HTB:=Lib.hid htb
 have HOK:=Lib.hid hput
 have HB:=Lib.hid hb0
 obtain ⟨ok,vb,rr⟩:=h
 have hlen:=ok.len
 have h64:=ok.s64
 have hlm:=ok.lm
 have RR:=Lib.hid rr
 rw [← ht] at ht2
 have hpu:l.put r = { l with secs:=l.secs++[[r]] }:=by unfold Wl.put; rw [if_neg hj,if_pos hroom]
 have hpa:l.putAt r=l.end_*128:=by unfold Wl.putAt; rw [if_neg hj,if_pos hroom]
 rw [hpa]
 have HPU:=Lib.hid hpu
 clear hpu hpa
 generalize (⟨(lay r).toArray⟩:ByteArray)=t at *
 generalize bodyS x=u at *
 have hz1:((l.end_:Nat):Int)=((l.end_ - 1:Nat):Int)+1:=by have:=ok.l1; omega
 have hcmp:¬ ((l.low:Int)+l.size≤((l.end_ - 1:Nat):Int)+1):=by omega
 have hzi:((l.end_ - 1:Nat):Int)≤2147483711:=by omega
 have hzl:(l.low:Int)≤2147483647:=by omega
 have hzs:(l.size:Int)≤64:=by omega
 have hlen2:l.secs.length≤64:=by omega
 have hu1:=toList_pos hx0
 have hsum:(112:Int) < (u.size:Int)+t.size:=by omega
 have hu112:(u.size:Int)≤112:=by omega
 have ht112:(t.size:Int)≤112:=by omega
 have hze:l.end_*128=(l.end_ - 1)*128+128:=by have:=ok.l1; omega
 have LC:=Lib.hid (rr.cells)
 clear hl hm hb0 hput ht htb hj ok rr hend hlen hlm h64 hroom hno hrs hxs hx2 hu hne hpos hlast hov hx0 e hz1
 rw [hze]
 clear hze
 generalize l.end_ - 1=z at *
 have add:∀ W,(Op.stringOp .add ⟨#[]⟩ t).run Tryz.prog W=.ok (.string t) W:=fun W=>by
  rw [run_string_add_sum W _ _ (by show 0+t.size≤_; omega)]
  congr 2
 have HT2:=Lib.hid ht2
 clear ht2
 unfold recV
 go_enter Tryz.func11,Tryz.ntmps11
 go_wp2_with (refine wpList_load_row rfl 46 _ rfl w.heap.size rfl 46 _ (0,0) _ B0 Tryz.underlying46 rfl (by kernel_rfl) ?_)
 refine PR.out.mono ?_
 rintro e w1 ⟨rfl,hb1⟩
 have HB1:=Lib.hid (below2 HB.out hb1)
 clear hb1 PR HB B0
 go_wp2_with fail
 refine (OP.out _ HB1.out).mono ?_
 rintro e w2 ⟨rfl,nd,rfl⟩
 have HB2:=Lib.hid (HB1.out.trans ((drewN_below w1 nd).mono HB1.out.size))
 clear HB1 OP
 go_upto_region 10 with (fail)
 have r2:=RR.out.below HB2.out
 clear LC
 generalize w1.drewN nd=w3 at *
 obtain ⟨va,vc,hvs⟩:=own_slice r2.rows
 subst hvs
 obtain ⟨_,_,c2,_,c4,_,c6⟩:=r2.cells
 have R2:=Lib.hid r2
 clear r2
 go_quiet (fail)
 have r4:=R2.out.below (drewN_below w3 nq)
 have BQ:=Lib.hid (HB2.out.trans ((drewN_below w3 nq).mono HB2.out.size))
 have e2:=R2.out.head
 clear R2 HB2 c2 c4 c6
 go_upto_region 12 with (fail)
 generalize w3.drewN nq=w4 at *
 have B5:Below w4.heap.size w4 (w4.alloc (.cells #[.string ⟨#[]⟩] 9)):=(Below.refl _ _).alloc (Nat.le_refl _) _
 have r5:=r4.below B5
 have BQ5:=Lib.hid (BQ.out.trans (B5.mono BQ.out.size))
 have c6:=r4.head.cell 6
 simp [logCells] at c6
 have lg:=r5.head.lt
 have nq6:=r5.vg
 have c65:=r5.head.cell 6
 simp [logCells] at c65
 have z65:=r5.head.frozen 6
 obtain ⟨i0,hi0,hz0,hz1',hz2'⟩:=info_parts info_str
 have R5:=Lib.hid r5
 clear r4 r5 B5 BQ
 go_wp2_with (at_builtin; refine wpList_append_lies _ rfl (.tmp 53) (.tmp 54) 62 rfl 0 9 i0 (.string ⟨#[]⟩) 1 16 Tryz.underlying62 hi0 hz0 hz1' hz2' rfl (by decide) _ _ _ rfl R5.out.rows ⟨w4.heap.size,0,none⟩ 1 1 [.string ⟨#[]⟩] rfl rfl (World.news_of_block (heap_alloc_new w4 _)) (by simp [Value.oneCell']) (by omega) (by simp only [maxLen]; omega) (by omega) (Nat.zero_le _) _ rfl ?_)
 intro gg cap w6 hown hgrow hat hlt6
 have z66:=(hgrow.frozen_far ⟨g,6,none⟩ lg (Ne.symm nq6)).trans z65
 have c66:=(hgrow.cell_far ⟨g,6,none⟩ lg (Ne.symm nq6)).trans c65
 obtain ⟨r7,s7⟩:=R5.out.pushed hown hgrow (by rw [World.size_alloc]; exact hat) hlt6
 have S7:=Lib.hid ((Step.ofBelow (F:=F) BQ5.out).trans s7)
 have R7:=Lib.hid r7
 clear hown hgrow hat hlt6 R5 BQ5 lg nq6 c65 z65 s7 r7 c6 hi0 hz0 hz1' hz2' e2
 go_upto_region 13 with (fail)
 clear z66 c66
 generalize w6.setCell ⟨g,6,none⟩ (.slice (some ⟨gg,0,none⟩) (l.secs.length+1) cap)=w7 at *
 have r7:=R7.out
 obtain ⟨_,_,_,_,_,_,c6⟩:=r7.cells
 have cy:=r7.rows.cellAt l.secs.length (by omega)
 have fy:=r7.rows.frozenAt l.secs.length
 rw [show (strsV (l.secs.map bodyS++[(⟨#[]⟩:ByteArray)]))[l.secs.length]? = some (.string ⟨#[]⟩) by simp [strsV]] at cy
 have hli:(l.secs.length:Int)≤64:=by omega
 have g0:(l.secs.length:Int) < (l.secs.length:Int)+1:=by omega
 have hw1:IntKind.i64.wrap (l.secs.length:Int)=(l.secs.length:Int):=IntWalk.i64_in _ (by omega)
 obtain ⟨r8,s8⟩:=r7.drew.stored l.secs.length t
 have hbs:(l.secs.map bodyS++[(⟨#[]⟩:ByteArray)]).set l.secs.length t=(l.put r).secs.map bodyS:=by
  rw [HPU.out,HTB.out]
  simp
 have hln:(l.put r).secs.length=l.secs.length+1:=by rw [HPU.out]; simp
 have hlc:logCells gd l (.slice (some ⟨gg,0,none⟩) (l.secs.length+1) cap)=logCells gd (l.put r) (.slice (some ⟨gg,0,none⟩) (l.secs.length+1) cap):=by rw [HPU.out]; rfl
 rw [hbs] at r8
 have R8:Hid (IsLog (w7.drew.setCell ⟨gg,l.secs.length,none⟩ (.string t)) (fun b=>F b∨b=gg) g gd (l.put r)):=⟨HOK.out,_,⟨by rw [← hlc]; exact r8.head,by rw [hln]; exact r8.rows,r8.fg,r8.fv,r8.lt⟩⟩
 have S8:=Lib.hid (S7.out.trans ((Step.refl _ w7).drew.trans s8))
 clear r7 r8 s8 hbs hln hlc HPU HOK HTB R7 S7
 generalize l.secs.length=y at *
 go_still_tail 14,(by kernel_rfl)
 go_wp2
 go_ret2
 exact ⟨by rw [show ((z*128+128:Nat):Int)=((z:Int)+1)*128 from by omega]; rfl,_,R8.out,S8.out⟩
set_option maxRecDepth 100000 in
set_option maxHeartbeats 8000000 in
theorem append_full1 (h:IsLog w F g gd l) (hv:IsRec w v r) (hm:May r) (hj:¬ l.joins r) (hne:l.end_=l.first) (hroom:¬ l.secs.length < l.size) :
 Calls Tryz.prog 11 #[.pointer (some ⟨g,0,none⟩),v] w (AppOut w F g gd (l.putAt r) 5 (l.put r)):=by
 obtain ⟨vt,vp,rfl,hl⟩:=hv
 have hput:=h.1.put hm (lay_short hm)
 have hb0:Below w.heap.size w (w.alloc (.cells (recCells r vt vp) 46)):=(Below.refl _ _).alloc (Nat.le_refl _) _
 have B0:=Blk.new w 46 (recCells r vt vp)
 have PR:Hid (Calls Tryz.prog 38 #[.agg (recCells r vt vp)] _ _):=print_yes ⟨vt,vp,rfl,hl.keep hb0⟩ hm
 have OP:Hid (∀ W,Below w.heap.size w W→Calls Tryz.prog 39 #[.pointer (some ⟨g,0,none⟩)] W (Peeks W (.tuple #[.int .i64 l.openNo,.string (bodyS l.openRs)]))):=fun W hW=>open_any (h.below hW)
 have hend:l.end_=l.low+l.secs.length:=rfl
 have ht:(⟨(lay r).toArray⟩:ByteArray).size=(lay r).length:=by simp [ByteArray.size]
 have ht2:=lay_short hm
 have htb:(⟨(lay r).toArray⟩:ByteArray)=bodyS [r]:=str_ext (by rw [bodyS_data]; simp [body])
 have hno:l.openNo=l.end_:=by unfold Wl.openNo; rw [if_pos hne]
 have hrs:l.openRs = []:=by unfold Wl.openRs; rw [if_pos hne]
 rw [hno,hrs,show bodyS []=⟨#[]⟩ from rfl] at OP
 have HTB:=Lib.hid htb
 have HLOG:=Lib.hid h
 have HOK:=Lib.hid hput
 have HB:=Lib.hid hb0
 obtain ⟨ok,vb,rr⟩:=h
 have hlen:=ok.len
 have h64:=ok.s64
 have hlm:=ok.lm
 have RR:=Lib.hid rr
 rw [← ht] at ht2
 have hpu:l.put r=l:=by unfold Wl.put; rw [if_neg hj,if_neg hroom]
 have hpa:l.putAt r=0:=by unfold Wl.putAt; rw [if_neg hj,if_neg hroom]
 rw [hpa,hpu]
 clear hpu hpa
 generalize (⟨(lay r).toArray⟩:ByteArray)=t at *
 have hzi:(l.end_:Int)≤2147483711:=by omega
 have hcmp:(l.low:Int)+l.size≤(l.end_:Int):=by omega
 have hzl:(l.low:Int)≤2147483647:=by omega
 have hzs:(l.size:Int)≤64:=by omega
 have hlen2:l.secs.length≤64:=by omega
 have LC:=Lib.hid (rr.cells)
 clear hl hm hb0 hput ht htb hj ok rr hend hlen hlm h64 hroom hno hrs hne
 generalize l.end_=z at *
 have add:∀ W,(Op.stringOp .add ⟨#[]⟩ t).run Tryz.prog W=.ok (.string t) W:=fun W=>by
  rw [run_string_add_sum W _ _ (by show 0+t.size≤_; omega)]
  congr 2
 have HT2:=Lib.hid ht2
 clear ht2
 unfold recV
 go_enter Tryz.func11,Tryz.ntmps11
 go_wp2_with (refine wpList_load_row rfl 46 _ rfl w.heap.size rfl 46 _ (0,0) _ B0 Tryz.underlying46 rfl (by kernel_rfl) ?_)
 refine PR.out.mono ?_
 rintro e w1 ⟨rfl,hb1⟩
 have HB1:=Lib.hid (below2 HB.out hb1)
 clear hb1 PR HB B0
 go_wp2_with fail
 refine (OP.out _ HB1.out).mono ?_
 rintro e w2 ⟨rfl,nd,rfl⟩
 have HB2:=Lib.hid (HB1.out.trans ((drewN_below w1 nd).mono HB1.out.size))
 clear HB1 OP
 go_upto_region 10 with (fail)
 have r2:=RR.out.below HB2.out
 clear LC
 generalize w1.drewN nd=w3 at *
 obtain ⟨va,vc,hvs⟩:=own_slice r2.rows
 subst hvs
 obtain ⟨_,_,c2,_,c4,_,c6⟩:=r2.cells
 have R2:=Lib.hid r2
 clear r2
 go_quiet (fail)
 have BQ:=Lib.hid (HB2.out.trans ((drewN_below w3 nq).mono HB2.out.size))
 have LQ:=Lib.hid (show IsLog w F g gd l from HLOG.out)
 go_wp2
 go_ret2
 exact ⟨rfl,F,LQ.out.below BQ.out,.ofBelow BQ.out⟩
set_option maxRecDepth 100000 in
set_option maxHeartbeats 8000000 in
theorem append_full2 (h:IsLog w F g gd l) (hv:IsRec w v r) (hm:May r) (hj:¬ l.joins r) (hne:¬ l.end_=l.first) (hroom:¬ l.secs.length < l.size) :
 Calls Tryz.prog 11 #[.pointer (some ⟨g,0,none⟩),v] w (AppOut w F g gd (l.putAt r) 5 (l.put r)):=by
 obtain ⟨vt,vp,rfl,hl⟩:=hv
 have hput:=h.1.put hm (lay_short hm)
 have hb0:Below w.heap.size w (w.alloc (.cells (recCells r vt vp) 46)):=(Below.refl _ _).alloc (Nat.le_refl _) _
 have B0:=Blk.new w 46 (recCells r vt vp)
 have PR:Hid (Calls Tryz.prog 38 #[.agg (recCells r vt vp)] _ _):=print_yes ⟨vt,vp,rfl,hl.keep hb0⟩ hm
 have OP:Hid (∀ W,Below w.heap.size w W→Calls Tryz.prog 39 #[.pointer (some ⟨g,0,none⟩)] W (Peeks W (.tuple #[.int .i64 l.openNo,.string (bodyS l.openRs)]))):=fun W hW=>open_any (h.below hW)
 have hend:l.end_=l.low+l.secs.length:=rfl
 have ht:(⟨(lay r).toArray⟩:ByteArray).size=(lay r).length:=by simp [ByteArray.size]
 have ht2:=lay_short hm
 have htb:(⟨(lay r).toArray⟩:ByteArray)=bodyS [r]:=str_ext (by rw [bodyS_data]; simp [body])
 have hpos:0 < l.secs.length:=by have:=h.1.fe; have:=h.1.fl; unfold Wl.end_ at *; omega
 obtain ⟨i,x,e⟩:=Wl.snoc_of hpos
 have hlast:l.secs.getLastD []=x:=by rw [e,Wl.lastD_snoc]
 have hno:l.openNo=l.end_ - 1:=by unfold Wl.openNo; rw [if_neg hne]
 have hrs:l.openRs=x:=by unfold Wl.openRs; rw [if_neg hne,hlast]
 rw [hno,hrs] at OP
 have hxs:=h.1.sec x (by rw [e]; simp)
 have hx0:=body_pos hxs.2.1 hxs.1
 have hx2:=hxs.2.2
 have hov:112 < (body x).length+(lay r).length:=by
  unfold Wl.joins at hj
  rw [hlast] at hj
  have:=h.1.fe
  have h2:l.first < l.end_:=by omega
  omega
 have hu:(bodyS x).size=(body x).length:=bodyS_size x
 rw [← hu] at hx0 hov hx2
 rw [← ht] at hov
 have HTB:=Lib.hid htb
 have HLOG:=Lib.hid h
 have HOK:=Lib.hid hput
 have HB:=Lib.hid hb0
 obtain ⟨ok,vb,rr⟩:=h
 have hlen:=ok.len
 have h64:=ok.s64
 have hlm:=ok.lm
 have RR:=Lib.hid rr
 rw [← ht] at ht2
 have hpu:l.put r=l:=by unfold Wl.put; rw [if_neg hj,if_neg hroom]
 have hpa:l.putAt r=0:=by unfold Wl.putAt; rw [if_neg hj,if_neg hroom]
 rw [hpa,hpu]
 clear hpu hpa
 generalize (⟨(lay r).toArray⟩:ByteArray)=t at *
 generalize bodyS x=u at *
 have hz1:((l.end_:Nat):Int)=((l.end_ - 1:Nat):Int)+1:=by have:=ok.l1; omega
 have hcmp:(l.low:Int)+l.size≤((l.end_ - 1:Nat):Int)+1:=by omega
 have hzi:((l.end_ - 1:Nat):Int)≤2147483711:=by omega
 have hzl:(l.low:Int)≤2147483647:=by omega
 have hzs:(l.size:Int)≤64:=by omega
 have hlen2:l.secs.length≤64:=by omega
 have hu1:=toList_pos hx0
 have hsum:(112:Int) < (u.size:Int)+t.size:=by omega
 have hu112:(u.size:Int)≤112:=by omega
 have ht112:(t.size:Int)≤112:=by omega
 have hze:l.end_*128=(l.end_ - 1)*128+128:=by have:=ok.l1; omega
 have LC:=Lib.hid (rr.cells)
 clear hl hm hb0 hput ht htb hj ok rr hend hlen hlm h64 hroom hno hrs hxs hx2 hu hne hpos hlast hov hx0 e hz1
 clear hze
 generalize l.end_ - 1=z at *
 have add:∀ W,(Op.stringOp .add ⟨#[]⟩ t).run Tryz.prog W=.ok (.string t) W:=fun W=>by
  rw [run_string_add_sum W _ _ (by show 0+t.size≤_; omega)]
  congr 2
 have HT2:=Lib.hid ht2
 clear ht2
 unfold recV
 go_enter Tryz.func11,Tryz.ntmps11
 go_wp2_with (refine wpList_load_row rfl 46 _ rfl w.heap.size rfl 46 _ (0,0) _ B0 Tryz.underlying46 rfl (by kernel_rfl) ?_)
 refine PR.out.mono ?_
 rintro e w1 ⟨rfl,hb1⟩
 have HB1:=Lib.hid (below2 HB.out hb1)
 clear hb1 PR HB B0
 go_wp2_with fail
 refine (OP.out _ HB1.out).mono ?_
 rintro e w2 ⟨rfl,nd,rfl⟩
 have HB2:=Lib.hid (HB1.out.trans ((drewN_below w1 nd).mono HB1.out.size))
 clear HB1 OP
 go_upto_region 10 with (fail)
 have r2:=RR.out.below HB2.out
 clear LC
 generalize w1.drewN nd=w3 at *
 obtain ⟨va,vc,hvs⟩:=own_slice r2.rows
 subst hvs
 obtain ⟨_,_,c2,_,c4,_,c6⟩:=r2.cells
 have R2:=Lib.hid r2
 clear r2
 go_quiet (fail)
 have BQ:=Lib.hid (HB2.out.trans ((drewN_below w3 nq).mono HB2.out.size))
 have LQ:=Lib.hid (show IsLog w F g gd l from HLOG.out)
 go_wp2
 go_ret2
 exact ⟨rfl,F,LQ.out.below BQ.out,.ofBelow BQ.out⟩
end
end Go.Proofs.YthkbcfhjmnpggaaGreat

namespace Go.Proofs.YthkbcfhjmnpggaaGreat
open Go.RowKit
structure Qe where
 at_:Int
 r:Rc
 vt:Value
 vp:Value
def Qe.ent (x:Qe):Ent:=(x.at_,x.r)
def Qe.cells (x:Qe):List Value:=.int .i64 x.at_::(recCells x.r x.vt x.vp).toList
theorem Qe.cells_len (x:Qe):x.cells.length=12:=rfl
def entsV (q:List Qe):List Value:=q.flatMap Qe.cells
theorem entsV_len (q:List Qe):(entsV q).length=q.length*12:=by
 induction q with
 | nil=>rfl
 | cons x q ih=>show (x.cells++entsV q).length=_; rw [List.length_append,ih,Qe.cells_len,List.length_cons]; omega
theorem entsV_snoc (q:List Qe) (x:Qe):entsV (q++[x])=entsV q++x.cells:=by simp [entsV]
theorem entsV_at:∀ (q:List Qe) (j:Nat) (h:j < q.length) (i:Nat) (_:i < 12),(entsV q)[j*12+i]? = q[j].cells[i]?
 | [],j,h,_,_=>by simp at h
 | x::q,0,_,i,hi=>by
   show (x.cells++entsV q)[0*12+i]? = x.cells[i]?
   rw [List.getElem?_append_left (by rw [Qe.cells_len]; omega)]
   simp
 | x::q,j+1,h,i,hi=>by
   show (x.cells++entsV q)[(j+1)*12+i]? = _
   rw [List.getElem?_append_right (by rw [Qe.cells_len]; omega),Qe.cells_len,show (j+1)*12+i - 12=j*12+i by omega,entsV_at q j (by simpa using h) i hi]
   rfl
def Apart (v:Value) (x:Qe):Prop:=∀ b,v.ownBlock=some b→(rows3 x.r.txns≠[]→x.vt.ownBlock≠some b)∧(rows2 x.r.pages≠[]→x.vp.ownBlock≠some b)
structure OwnE (w:World) (B:Nat) (v:Value) (q:List Qe):Prop where
 own:w.ownsRow B 108 12 v q.length (entsV q)
 lists:∀ x ∈ q,Lists w x.r x.vt x.vp
 apart:∀ x ∈ q,Apart v x
theorem Lists.keepA {S:Nat→Prop} {w w':World} {r:Rc} {vt vp:Value} (h:Lists w r vt vp) (hb:Only S w w') (ht:rows3 r.txns≠[]→∀ b,vt.ownBlock=some b→¬ S b) (hp:rows2 r.pages≠[]→∀ b,vp.ownBlock=some b→¬ S b):Lists w' r vt vp :=
 ⟨h.t.keepS hb ht,h.p.keepS hb hp⟩
theorem Elems.blt {w:World} {v:Value} {n:Nat} {xs:List Value} (h:Elems w v n xs) (hx:xs≠[]):∀ b,v.ownBlock=some b→b < w.heap.size:=by
 obtain ⟨b,off,cap,rfl,_,_,hb,_⟩:=h.cases hx
 intro b' hb'
 cases hb'
 exact hb
namespace OwnE
variable {w w':World} {B:Nat} {v:Value} {q:List Qe}
theorem nil (w:World) (B:Nat):OwnE w B (.slice none 0 0) []:=⟨World.ownsRow_nil w B _ 12,fun x h=>by simp at h,fun x h=>by simp at h⟩
theorem keep (h:OwnE w B v q) (hb:Below w.heap.size w w'):OwnE w' B v q:=⟨own_below h.own hb,fun x hx=>(h.lists x hx).keep hb,h.apart⟩
theorem isEnts (h:OwnE w B v q):IsEnts w v (q.map Qe.ent):=by
 rcases own_any h.own with ⟨rfl,h0,_⟩ | ⟨g,cap,rfl,h1,h2⟩
 ·have:q = []:=List.eq_nil_of_length_eq_zero h0
  subst this
  exact IsEnts.nil w
 ·refine ⟨some ⟨g,0,none⟩,cap,by simp,by simpa using h1,h2,fun j hj=>?_⟩
  have hj':j < q.length:=by simpa using hj
  have he:(q.map Qe.ent)[j]=(q[j].at_,q[j].r):=by simp [Qe.ent]
  have hc:∀ i,i < 12→w.cell? ⟨g,0+j*12+i,none⟩=q[j].cells[i]?:=fun i hi=>by
   rw [Nat.zero_add,h.own.cellAt (j*12+i) (by omega),entsV_at q j hj' i hi]
  refine ⟨g,0,q[j].vt,q[j].vp,rfl,(h.own.lt g rfl).2,?_,fun i x hx=>?_,?_⟩
  · rw [he]; exact hc 0 (by omega)
  ·rw [he] at hx
   have hi:i < 11:=by
    have:=(Array.getElem?_eq_some_iff.1 hx).1
    rwa [recCells_size] at this
   rw [show 0+j*12+1+i=0+j*12+(i+1) by omega,hc (i+1) (by omega)]
   show (recCells q[j].r q[j].vt q[j].vp).toList[i]? = _
   rw [Array.getElem?_toList]; exact hx
  · rw [he]; exact h.lists _ (List.getElem_mem hj')
theorem pushed (h:OwnE w B v q) {x:Qe} (hl:Lists w x.r x.vt x.vp) (hx:Apart v x) {g cap:Nat} (ho:w'.ownsRow B 108 12 (.slice (some ⟨g,0,none⟩) (q.length+1) cap) (q.length+1) (entsV q++x.cells))
 (hg:w.grownBy w' v.ownBlock) (hat:v.ownBlock=some g∨g=w.heap.size):OwnE w' B (.slice (some ⟨g,0,none⟩) (q.length+1) cap) (q++[x]):=by
 have hon:Only (fun b=>v.ownBlock=some b) w w':=(Only.refl _ w).grown hg fun b hb=>.inl hb
 have hall:∀ y ∈ q++[x],Lists w y.r y.vt y.vp∧Apart v y:=fun y hy=>by
  rcases List.mem_append.1 hy with hy | hy
  · exact ⟨h.lists y hy,h.apart y hy⟩
  · simp at hy; subst hy; exact ⟨hl,hx⟩
 refine ⟨?_,fun y hy=>?_,fun y hy b hb=>?_⟩
 · rw [entsV_snoc,List.length_append]; exact ho
 ·obtain ⟨hly,hay⟩:=hall y hy
  exact hly.keepA hon (fun hr b hb hv=>(hay b hv).1 hr hb) (fun hr b hb hv=>(hay b hv).2 hr hb)
 ·obtain ⟨hly,hay⟩:=hall y hy
  have hbg:b=g:=by simpa [Value.ownBlock] using hb.symm
  subst hbg
  rcases hat with hat | hat
  · exact hay b hat
  · exact ⟨fun hr hv=>by have:=hly.t.blt hr b hv; omega,fun hr hv=>by have:=hly.p.blt hr b hv; omega⟩
end OwnE
theorem New.apart {w:World} {B:Nat} {v:Value} {q:List Qe} (h:OwnE w B v q) {at_:Int} {r:Rc} {vt vp:Value} (nt:New w vt) (np:New w vp):Apart v ⟨at_,r,vt,vp⟩:=fun b hb =>
 ⟨fun _ hv=>by have:=(h.own.lt b hb).2; have:=nt b hv; omega,fun _ hv=>by have:=(h.own.lt b hb).2; have:=np b hv; omega⟩
end Go.Proofs.YthkbcfhjmnpggaaGreat

namespace Go.Proofs.YthkbcfhjmnpggaaGreat
open Go.RowKit
def FreshQ (B:Nat) (q:List Qe):Prop:=∀ x ∈ q,(rows3 x.r.txns≠[]→∀ b,x.vt.ownBlock=some b→B≤b)∧(rows2 x.r.pages≠[]→∀ b,x.vp.ownBlock=some b→B≤b)
theorem FreshQ.nil (B:Nat):FreshQ B []:=fun x h=>by simp at h
theorem FreshQ.snoc {B:Nat} {q:List Qe} {x:Qe} (h:FreshQ B q) (ht:∀ b,x.vt.ownBlock=some b→B≤b) (hp:∀ b,x.vp.ownBlock=some b→B≤b):FreshQ B (q++[x]):=fun y hy=>by
 rcases List.mem_append.1 hy with hy | hy
 · exact h y hy
 · simp at hy; subst hy; exact ⟨fun _=>ht,fun _=>hp⟩
def allCode (o:Option (List Ent)):Int:=if o.isSome then 0 else 3
def AllOut (w:World) (o:Option (List Ent)) (e:Ending) (w':World):Prop :=
 ∃ v q,e=.returned (.tuple #[v,.int .i64 (allCode o)])∧q.map Qe.ent=o.getD []∧OwnE w' w.heap.size v q∧Below w.heap.size w w'∧FreshQ w.heap.size q
def entryZero:Value:=.agg #[.int .i64 0,.int .i64 0,.int .i64 0,.int .i64 0,.int .i64 0,.int .i64 0,.int .i64 0,.int .i64 0,.string ⟨#[]⟩,.string ⟨#[]⟩,.slice none 0 0,.slice none 0 0]
theorem info_entry:(Tryz.prog.info? 108).map (fun i=>(i.zero,i.size,i.bytes))=some (some entryZero,12,144):=by kernel_rfl
abbrev allS (s:ByteArray):Option (List Ent):=allL s.data.toList.length 0 s.data.toList
set_option maxRecDepth 100000 in
set_option maxHeartbeats 4000000 in
theorem all_any (s:ByteArray) (w:World) (hs:s.size≤16777216):Calls Tryz.prog 85 #[.string s] w (AllOut w (allS s)):=by
 have hm:s.size≤maxLen:=by unfold maxLen; omega
 have HM:=Lib.hid hm
 clear hm
 go_enter Tryz.func85,Tryz.ntmps85
 go_wp2
 go_loopw [4,5] (fun v i wr=>∃ (q:List Qe) (k:Nat) (l:List UInt8),i=.int .i64 k∧k≤s.size∧q.length≤k∧OwnE wr w.heap.size v q∧Along s.data.toList (q.map Qe.ent) k l∧Below w.heap.size w wr∧FreshQ w.heap.size q) (fun _ i _=>s.size - (intOf i).toNat)
 case atStart=>exact ⟨[],0,_,rfl,Nat.zero_le _,Nat.le_refl _,OwnE.nil _ _,Along.start _,Below.refl _ _,FreshQ.nil _⟩
 case round =>
  obtain ⟨q,k,l,rfl,hk,hq,ho,hal,hB,hfr⟩:=hrel
  have HFR:=Lib.hid hfr
  clear hfr
  have HO:=Lib.hid ho
  have HAL:=Lib.hid hal
  have HB:=Lib.hid hB
  clear ho hal hB
  by_cases hlt:k < s.size
  ·cases hp:recP (s.data.toList.drop k) with
   | none =>
     have hr:readR s k=(.nil,0,3):=by unfold readR; rw [if_neg (by omega),Int.toNat_natCast,hp]; rfl
     have HR:=Lib.hid (rdRead_new s k wr HM.out)
     rw [hr] at HR
     have hno:allS s=none:=HAL.out.stop (by rw [HAL.out.2.1]; intro hc; have:=congrArg List.length hc; simp at this; omega) (by rw [HAL.out.2.1]; exact hp)
     have HNO:=Lib.hid hno
     clear hp hr hno
     go_wp2_with fail
     refine HR.out.mono ?_
     rintro e w1 ⟨vt,vp,rfl,hl,nt,np,hb⟩
     have one:=hl.one
     have hn:=Blk.new w1 46 (recCells .nil (.slice none 0 0) (.slice none 0 0))
     have LB:=Lib.hid (below2 (below2 HB.out hb) (below_setRow ((Below.refl _ _).alloc (Nat.le_refl _) (.cells (recCells .nil (.slice none 0 0) (.slice none 0 0)) 46)) (Nat.le_refl _) (recCells .nil vt vp)))
     clear hb hl nt np
     go_wp2_with (refine wpList_store_row rfl 46 _ _ rfl w1.heap.size _ rfl rfl 46 _ hn (by kernel_rfl) rfl one ?_)
     go_ret2
     refine ⟨.slice none 0 0,[],?_,?_,OwnE.nil _ _,LB.out,FreshQ.nil _⟩
     · rw [HNO.out]; rfl
     · rw [HNO.out]; rfl
   | some x =>
     obtain ⟨r,l'⟩:=x
     have hr:readR s k=(r,(s.size:Int) - l'.length,0):=by unfold readR; rw [if_neg (by omega),Int.toNat_natCast,hp]; rfl
     have hls:=recP_less hp
     rw [List.length_drop,size_bytes] at hls
     obtain ⟨m,hmm⟩:∃ m:Nat,m=s.size - l'.length:=⟨_,rfl⟩
     rw [show (s.size:Int) - l'.length=(m:Int) by omega] at hr
     have HR:=Lib.hid (rdRead_new s k wr HM.out)
     rw [hr] at HR
     have HST:=Lib.hid (HAL.out.step (by rw [HAL.out.2.1]; exact hp))
     rw [show s.data.toList.length - l'.length=m by rw [hmm,size_bytes]] at HST
     have hkm:k+1≤m:=by omega
     have hms:m≤s.size:=by omega
     clear hp hr hls hmm HAL
     go_wp2_with fail
     refine HR.out.mono ?_
     rintro e w1 ⟨vt,vp,rfl,hl,nt,np,hb⟩
     have one:=hl.one
     have hn:=Blk.new w1 46 (recCells .nil (.slice none 0 0) (.slice none 0 0))
     clear HR
     have N3:=hn.setRow (recCells r vt vp)
     have hb3:Below w1.heap.size w1 ((w1.alloc (.cells (recCells .nil (.slice none 0 0) (.slice none 0 0)) 46)).setRow w1.heap.size (recCells r vt vp)):=below_setRow ((Below.refl _ _).alloc (Nat.le_refl _) _) (Nat.le_refl _) _
     have HO3:=Lib.hid ((HO.out.keep hb).keep hb3)
     have HL3:=Lib.hid (hl.keep hb3)
     have HF2:Hid (FreshQ w.heap.size (q++[⟨k,r,vt,vp⟩])):=HFR.out.snoc (fun b hb=>Nat.le_trans HB.out.size (nt b hb)) (fun b hb=>Nat.le_trans HB.out.size (np b hb))
     have HAP:=Lib.hid (New.apart HO.out (at_:=k) (r:=r) nt np)
     have HB3:=Lib.hid (below2 (below2 HB.out hb) hb3)
     go_upto_region 7 with (refine wpList_store_row rfl 46 _ _ rfl w1.heap.size _ rfl rfl 46 _ hn (by kernel_rfl) rfl one ?_)
     clear hn hb3 hl nt np hb HO HB
     change Code.wp _ _ _ _ ((w1.alloc (.cells (recCells .nil (.slice none 0 0) (.slice none 0 0)) 46)).setRow w1.heap.size (recCells r vt vp))
     generalize ((w1.alloc (.cells (recCells .nil (.slice none 0 0) (.slice none 0 0)) 46)).setRow w1.heap.size (recCells r vt vp))=w3 at *
     generalize w1.heap.size=x at *
     obtain ⟨i0,hi0,hz0,hz1,hz2⟩:=info_parts info_entry
     have HI:=Lib.hid (And.intro hi0 (And.intro hz0 (And.intro hz1 hz2)))
     clear hi0 hz0 hz1 hz2
     obtain ⟨ta,tc,rfl⟩:=HL3.out.t.form
     obtain ⟨pa,pc,rfl⟩:=HL3.out.p.form
     unfold recCells at N3
     obtain ⟨hi0,hz0,hz1,hz2⟩:=id HI.out
     have B4:Below w3.heap.size w3 (w3.alloc (.cells (Qe.cells ⟨k,r,.slice ta r.txns.length tc,.slice pa r.pages.length pc⟩).toArray 108)):=(Below.refl _ _).alloc (Nat.le_refl _) _
     have HO4:=Lib.hid (HO3.out.keep B4)
     have HL4:=Lib.hid (HL3.out.keep B4)
     have HB4:=Lib.hid (below2 HB3.out B4)
     have hq4:=HB4.out.size
     clear B4 HO3 HL3 HB3
     go_wp2_with (first
      | (refine wpList_load_row rfl 46 _ rfl x rfl 46 _ (0,0) _ N3 Tryz.underlying46 rfl (by kernel_rfl) ?_)
      | (at_builtin; refine wpList_append_lies _ rfl (.tmp 23) (.tmp 27) 40 rfl w.heap.size 108 i0 entryZero 12 144 Tryz.underlying40 hi0 hz0 hz1 hz2 rfl (by decide) _ _ _ rfl HO4.out.own ⟨w3.heap.size,0,none⟩ 1 1 (Qe.cells ⟨k,r,.slice ta r.txns.length tc,.slice pa r.pages.length pc⟩) rfl rfl (World.news_of_block (heap_alloc_new w3 _)) (by simp [Qe.cells,recCells,Value.oneCell']) (by omega) (by simp only [maxLen]; omega) (by omega) hq4 _ rfl ?_))
     intro g cap w5 hown hgrow hat hlt5
     have HO5:=Lib.hid (HO4.out.pushed HL4.out HAP.out hown hgrow (by rw [World.size_alloc]; exact hat))
     have HB5:=Lib.hid (show Below w.heap.size w w5 from HB4.out.trans ⟨hgrow.os,hgrow.tape,hgrow.output,hgrow.size,fun b hb=>hgrow.block b (Nat.lt_of_lt_of_le hb hq4) fun e=>by have:=(HO4.out.own.lt b e.symm).1; omega⟩)
     clear hown hgrow hat HO4 HL4 HB4
     go_wp2
     go_roundw
     case rel=>exact ⟨q++[⟨k,r,.slice ta r.txns.length tc,.slice pa r.pages.length pc⟩],m,l',rfl,hms,by simp; omega,by simpa using HO5.out,by simpa [Qe.ent] using HST.out,HB5.out,HF2.out⟩
     case measure=>simp [intOf]; omega
  ·obtain rfl:k=s.size:=by omega
   have hdn:allS s=some (q.map Qe.ent):=HAL.out.done (by rw [HAL.out.2.1,← size_bytes,List.drop_length])
   have HDN:=Lib.hid hdn
   clear hdn
   go_wp2
   go_ret2
   exact ⟨_,q,by rw [HDN.out]; rfl,by rw [HDN.out]; rfl,HO.out,HB.out,HFR.out⟩
end Go.Proofs.YthkbcfhjmnpggaaGreat
