/- Texts that belong together, joined: RinK6. -/
import Derived.Test.YthkbcfhjmnpggaaGreatK29
import Derived.Deep.AppendLies
namespace Go.Proofs.YthkbcfhjmnpggaaGreat
open Go.RowKit
set_option linter.unusedSimpArgs false
namespace Rin
theorem tables_eq {x:Rin} {r:Rc} {a:Int} {m m2:Nat} {ts:List Row3} {ps:List Row2} {y z:Rin} (h1:x.four=a) (h2:(x.rest 4).small.toNat=m) (h3:rowsT m ((x.rest 4).rest 1)=(ts,y)) (h4:y.small.toNat=m2) (h5:rowsP m2 (y.rest 1)=(ps,z)) :
 tables x r=({ r with beg:=a,txns:=ts,pages:=ps },z):=by
 unfold tables
 simp only [h1,h2,h3,h4,h5]
def AlongT (m:Nat) (x:Rin) (i:Nat) (ts:List Row3) (y:Rin):Prop:=i≤m∧ts.length=i∧rowsT m x=(ts++(rowsT (m - i) y).1,(rowsT (m - i) y).2)
def AlongP (m:Nat) (x:Rin) (i:Nat) (ps:List Row2) (y:Rin):Prop:=i≤m∧ps.length=i∧rowsP m x=(ps++(rowsP (m - i) y).1,(rowsP (m - i) y).2)
theorem AlongT.start (m:Nat) (x:Rin):AlongT m x 0 [] x:=⟨Nat.zero_le _,rfl,rfl⟩
theorem AlongP.start (m:Nat) (x:Rin):AlongP m x 0 [] x:=⟨Nat.zero_le _,rfl,rfl⟩
theorem AlongT.step {m i:Nat} {x y:Rin} {ts:List Row3} (h:AlongT m x i ts y) (hi:i < m) (hb:y.bad=false):AlongT m x (i+1) (ts++[(y.four,(y.rest 4).four,((y.rest 4).rest 4).four)]) (((y.rest 4).rest 4).rest 4):=by
 obtain ⟨h1,h2,h3⟩:=h
 refine ⟨hi,by simp [h2],?_⟩
 rw [h3,show m - i=(m - (i+1))+1 by omega]
 simp [rowsT,hb]
theorem AlongP.step {m i:Nat} {x y:Rin} {ps:List Row2} (h:AlongP m x i ps y) (hi:i < m) (hb:y.bad=false):AlongP m x (i+1) (ps++[(y.small,(y.rest 1).four)]) ((y.rest 1).rest 4):=by
 obtain ⟨h1,h2,h3⟩:=h
 refine ⟨hi,by simp [h2],?_⟩
 rw [h3,show m - i=(m - (i+1))+1 by omega]
 simp [rowsP,hb]
theorem AlongT.done {m i:Nat} {x y:Rin} {ts:List Row3} (h:AlongT m x i ts y) (hd:i=m∨y.bad=true):rowsT m x=(ts,y):=by
 obtain ⟨h1,h2,h3⟩:=h
 have e:rowsT (m - i) y=([],y):=by
  cases hk:m - i with
  | zero=>rfl
  | succ q =>
    have hb:y.bad=true:=by
     rcases hd with hd | hd; · omega
     · exact hd
    simp [rowsT,hb]
 rw [h3,e]; simp
theorem AlongP.done {m i:Nat} {x y:Rin} {ps:List Row2} (h:AlongP m x i ps y) (hd:i=m∨y.bad=true):rowsP m x=(ps,y):=by
 obtain ⟨h1,h2,h3⟩:=h
 have e:rowsP (m - i) y=([],y):=by
  cases hk:m - i with
  | zero=>rfl
  | succ q =>
    have hb:y.bad=true:=by
     rcases hd with hd | hd; · omega
     · exact hd
    simp [rowsP,hb]
 rw [h3,e]; simp
end Rin
namespace RS
variable {w0 w w':World} {gx gr gR gt:Nat} {x:Rin} {r:Rc} {vt vp:Value}
def Behind (gx gr gR gt:Nat) (vt vp:Value):Prop:=gx < gt∧gr < gt∧gR < gt∧(∀ b,vt.ownBlock=some b→b < gt)∧∀ b,vp.ownBlock=some b→b < gt
theorem behind (h:RS w0 w gx gr gR x r vt vp) (hg:w.heap.size≤gt):Behind gx gr gR gt vt vp :=
 ⟨by have:=h.inn.lt; omega,by have:=h.row.lt; omega,by have:=h.res.lt; omega,fun b hb=>by have:=(h.t.lt b hb).2; omega,fun b hb=>by have:=(h.p.lt b hb).2; omega⟩
theorem only (h:RS w0 w gx gr gR x r vt vp) (ho:Only (· = gt) w w') (hb:Behind gx gr gR gt vt vp) (hg:w0.heap.size≤gt):RS w0 w' gx gr gR x r vt vp:=by
 obtain ⟨b1,b2,b3,b4,b5⟩:=hb
 exact ⟨ho.blk h.inn (by omega),ho.blk h.row (by omega),ho.blk h.res (by omega),h.ne,h.bx,h.br,ho.below h.below h.below.size fun b e=>by omega,own_only h.t ho fun b hv e=>by have:=b4 b hv; omega,own_only h.p ho fun b hv e=>by have:=b5 b hv; omega,h.le⟩
theorem pushT (h:RS w0 w gx gr gR x r vt vp) {v':Value} {z:Row3} (hown:w'.ownsRow w0.heap.size 136 3 v' (r.txns.length+1) (rows3 r.txns++cells3 z)) (hg:w.grownBy w' vt.ownBlock) :
 RS w0 (w'.setCell ⟨gr,9,none⟩ v') gx gr gR x { r with txns:=r.txns++[z] } v' vp:=by
 have e1:w'.heap[gx]? = w.heap[gx]?:=hg.block gx h.inn.lt fun e=>own_blk h.t h.inn (by decide) e.symm
 have e2:w'.heap[gr]? = w.heap[gr]?:=hg.block gr h.row.lt fun e=>own_blk h.t h.row (by decide) e.symm
 have e3:w'.heap[gR]? = w.heap[gR]?:=hg.block gR h.res.lt fun e=>own_blk h.t h.res (by decide) e.symm
 have hrow:Blk w' gr 46 (recCells r vt vp):=e2.trans h.row
 have hp:w'.ownsRow w0.heap.size 138 2 vp r.pages.length (rows2 r.pages):=own_keep h.p fun b hv=>hg.block b (h.p.lt b hv).2 fun e=>own_apart h.p h.t (by decide) hv e.symm
 refine ⟨(heap_setCell_other w' ⟨gr,9,none⟩ gx v' h.xr.symm).trans (e1.trans h.inn),hrow.set 9 v',(heap_setCell_other w' ⟨gr,9,none⟩ gR v' h.ne.symm).trans (e3.trans h.res),h.ne,h.bx,h.br,?_,?_,?_,h.le⟩
 ·refine Below.setCell (p:=⟨gr,9,none⟩) ?_ h.br v'
  exact ⟨hg.os.trans h.below.os,hg.tape.trans h.below.tape,hg.output.trans h.below.output,Nat.le_trans h.below.size hg.size,fun b hb=>(hg.block b (Nat.lt_of_lt_of_le hb h.below.size) fun e=>by have:=(h.t.lt b e.symm).1; omega).trans (h.below.block b hb)⟩
 ·show World.ownsRow _ _ _ _ _ (r.txns++[z]).length (rows3 (r.txns++[z]))
  rw [List.length_append,rows3_snoc]
  exact own_keep hown fun b hv=>heap_setCell_other w' ⟨gr,9,none⟩ b v' fun e=>own_blk hown hrow (by decide) (by rw [hv,e])
 · exact own_keep hp fun b hv=>heap_setCell_other w' ⟨gr,9,none⟩ b v' fun e=>own_blk hp hrow (by decide) (by rw [hv,e])
theorem pushP (h:RS w0 w gx gr gR x r vt vp) {v':Value} {z:Row2} (hown:w'.ownsRow w0.heap.size 138 2 v' (r.pages.length+1) (rows2 r.pages++cells2 z)) (hg:w.grownBy w' vp.ownBlock) :
 RS w0 (w'.setCell ⟨gr,10,none⟩ v') gx gr gR x { r with pages:=r.pages++[z] } vt v':=by
 have e1:w'.heap[gx]? = w.heap[gx]?:=hg.block gx h.inn.lt fun e=>own_blk h.p h.inn (by decide) e.symm
 have e2:w'.heap[gr]? = w.heap[gr]?:=hg.block gr h.row.lt fun e=>own_blk h.p h.row (by decide) e.symm
 have e3:w'.heap[gR]? = w.heap[gR]?:=hg.block gR h.res.lt fun e=>own_blk h.p h.res (by decide) e.symm
 have hrow:Blk w' gr 46 (recCells r vt vp):=e2.trans h.row
 have ht:w'.ownsRow w0.heap.size 136 3 vt r.txns.length (rows3 r.txns):=own_keep h.t fun b hv=>hg.block b (h.t.lt b hv).2 fun e=>own_apart h.t h.p (by decide) hv e.symm
 refine ⟨(heap_setCell_other w' ⟨gr,10,none⟩ gx v' h.xr.symm).trans (e1.trans h.inn),hrow.set 10 v',(heap_setCell_other w' ⟨gr,10,none⟩ gR v' h.ne.symm).trans (e3.trans h.res),h.ne,h.bx,h.br,?_,?_,?_,h.le⟩
 ·refine Below.setCell (p:=⟨gr,10,none⟩) ?_ h.br v'
  exact ⟨hg.os.trans h.below.os,hg.tape.trans h.below.tape,hg.output.trans h.below.output,Nat.le_trans h.below.size hg.size,fun b hb=>(hg.block b (Nat.lt_of_lt_of_le hb h.below.size) fun e=>by have:=(h.p.lt b e.symm).1; omega).trans (h.below.block b hb)⟩
 · exact own_keep ht fun b hv=>heap_setCell_other w' ⟨gr,10,none⟩ b v' fun e=>own_blk ht hrow (by decide) (by rw [hv,e])
 ·show World.ownsRow _ _ _ _ _ (r.pages++[z]).length (rows2 (r.pages++[z]))
  rw [List.length_append,rows2_snoc]
  exact own_keep hown fun b hv=>heap_setCell_other w' ⟨gr,10,none⟩ b v' fun e=>own_blk hown hrow (by decide) (by rw [hv,e])
end RS
set_option maxRecDepth 100000 in
set_option maxHeartbeats 8000000 in
theorem refRead_6 (s:ByteArray) (k:Nat) (w:World) (hs:s.size≤maxLen) (h:k≤s.size) (hk:(rin0 s k).small=6) :
 Calls Tryz.prog 87 #[.string s,.int .i64 k] w (Reads3N w (readR s k)):=by
 have hrec:Rin.rec0 (rin0 s k)=Rin.tables ((rin0 s k).rest 1) { Rc.nil with kind:=6 }:=by
  unfold Rin.rec0
  rw [hk]
  rfl
 have hle:(rin0 s k).s.length≤maxLen:=by show (s.data.toList.drop k).length≤_; rw [List.length_drop,size_bytes]; omega
 have hex:(s.extract k s.size)=⟨(s.data.toList.drop k).toArray⟩:=bytes_drop s.data.toList k s.size rfl
 have HREC:=Lib.hid hrec
 have HLE:=Lib.hid hle
 have HEX:=Lib.hid hex
 have HK:=Lib.hid hk
 have HH:=Lib.hid h
 have hkr:(k:Int)≤(s.size:Int):=by omega
 have hk0:decide ((k:Int) < 0)=false:=by simp
 clear hrec hle hex hk
 unfold maxLen at hs
 go_enter Tryz.func87,Tryz.ntmps87
 go_wp2_with fail
 rw [HEX.out]
 change Calls _ _ _ ((w.alloc (.cells nilRow 46)).alloc (.cells (inV (rin0 s k)) 176)) _
 have hb0:Blk ((w.alloc (.cells nilRow 46)).alloc (.cells (inV (rin0 s k)) 176)) (w.heap.size+1) 176 (inV (rin0 s k)):=by
  have:=Blk.new (w.alloc (.cells nilRow 46)) 176 (inV (rin0 s k))
  rwa [World.size_alloc] at this
 refine (inSmall_any (x:=rin0 s k) hb0 HLE.out).mono ?_
 rintro e w1 ⟨rfl,hb,ho⟩
 clear hb0
 have S1:=RS.start (x:=rin0 s k) HLE.out rfl hb ho 6
 have hn:=Blk.new w1 46 nilRow
 rw [HK.out]
 go_upto_region 5 with (refine wpList_store_row rfl 46 _ _ rfl w1.heap.size _ rfl rfl 46 _ hn (by kernel_rfl) rfl (by simp [Value.oneCell']) ?_)
 change Code.wp _ _ _ _ ((w1.alloc (.cells nilRow 46)).setRow w1.heap.size (recCells { Rc.nil with kind:=6 } (.slice none 0 0) (.slice none 0 0)))
 clear hb ho hn
 have hne:w1.heap.size≠w.heap.size+1:=S1.xr
 generalize hW:((w1.alloc (.cells nilRow 46)).setRow w1.heap.size (recCells { Rc.nil with kind:=6 } (.slice none 0 0) (.slice none 0 0)))=w2 at *
 clear hW
 generalize w1.heap.size=gr at *
 have c0:=S1.row.cell 0
 simp [recCells] at c0
 generalize hx1:(rin0 s k).rest 1=x1 at *
 go_wp2_with fail
 refine (inFour_any S1.inn S1.le).mono ?_
 rintro e w3 ⟨rfl,hb,ho⟩
 have T3:=S1.took hb ho
 have cc:=T3.row.cell 6
 simp [recCells,Rc.nil] at cc
 have zz:=T3.row.frozen 6
 clear c0 hb ho S1
 generalize ha:x1.four=a at *
 have S3:=T3.set (r':=(Rc.mk 6 0 0 0 0 0 a ⟨#[]⟩ ⟨#[]⟩ [] [])) 6 (.int .i64 a) rfl rfl rfl
 clear T3
 go_wp2_with fail
 clear cc zz
 generalize w3.setCell ⟨gr,6,none⟩ (.int .i64 a)=w4 at *
 refine (inSmall_any S3.inn S3.le).mono ?_
 rintro e w5 ⟨rfl,hb,ho⟩
 have S5:=S3.took hb ho
 clear hb ho S3
 obtain ⟨m,hm⟩:∃ m:Nat,(x1.rest 4).small.toNat=m:=⟨_,rfl⟩
 have im:(x1.rest 4).small=(m:Int):=by have:0≤(x1.rest 4).small:=Int.natCast_nonneg _; omega
 have bm:m≤255:=by have:(x1.rest 4).small < 256:=(by unfold Rin.small; have:=(((x1.rest 4).take 1).getD 0 0).toNat_lt; omega); omega
 rw [im]
 have HA:=Lib.hid ha
 have HM0:=Lib.hid hm
 clear ha im hm
 generalize hx3:(x1.rest 4).rest 1=x3 at *
 have HX3:=Lib.hid hx3
 clear hx3
 have hm3:(m:Int)≤255:=by omega
 go_wp2_with fail
 obtain ⟨i3,hi3,z31,z32,z33⟩:=info_parts info_txn
 have I3:=Lib.hid (And.intro hi3 (And.intro z31 (And.intro z32 z33)))
 clear hi3 z31 z32 z33
 have R5:=Lib.hid S5
 clear S5
 go_loopw [11] (fun vi wr=>∃ (i:Nat) (ts:List Row3) (y:Rin) (vt:Value),vi=.int .i64 i∧RS w wr (w.heap.size+1) gr w.heap.size y (Rc.mk 6 0 0 0 0 0 a ⟨#[]⟩ ⟨#[]⟩ ts []) vt (.slice none 0 0)∧Rin.AlongT m x3 i ts y) (fun vi _=>m - (intOf vi).toNat)
 case atStart=>exact ⟨0,[],x3,_,rfl,R5.out,Rin.AlongT.start _ _⟩
 case round =>
  obtain ⟨i,ts,y,vt,rfl,S6,hal⟩:=hrel
  have him:i≤m:=hal.1
  have htl:ts.length=i:=hal.2.1
  have HAL:=Lib.hid hal
  clear hal
  have i1:=S6.inn.cell 1
  simp [inV] at i1
  by_cases hgo:i < m∧y.bad=false
  ·obtain ⟨hlt,hbf⟩:=hgo
   rw [hbf] at i1
   have htl2:ts.length≤255:=by omega
   have HAL2:=Lib.hid (HAL.out.step hlt hbf)
   clear hbf htl HAL
   go_wp2_with fail
   refine (inFour_any S6.inn S6.le).mono ?_
   rintro e w7 ⟨rfl,hb,ho⟩
   have S7:=S6.took hb ho
   clear hb ho S6 i1
   have hn:=Blk.new w7 136 #[.int .i64 0,.int .i64 0,.int .i64 0]
   have N3:=hn.setRow #[.int .i64 y.four,.int .i64 0,.int .i64 0]
   have hb3:Below w7.heap.size w7 ((w7.alloc (.cells #[.int .i64 0,.int .i64 0,.int .i64 0] 136)).setRow w7.heap.size #[.int .i64 y.four,.int .i64 0,.int .i64 0]):=below_setRow ((Below.refl _ _).alloc (Nat.le_refl _) _) (Nat.le_refl _) _
   have S8:=S7.more hb3
   have hbh:=S7.behind (gt:=w7.heap.size) (Nat.le_refl _)
   have hgt:w.heap.size≤w7.heap.size:=S7.below.size
   go_upto_region 28 with (refine wpList_store_row rfl 136 _ _ rfl w7.heap.size _ rfl rfl 136 _ hn (by kernel_rfl) rfl (by simp [Value.oneCell']) ?_)
   clear hn hb3 S7
   change Code.wp _ _ _ _ ((w7.alloc (.cells #[.int .i64 0,.int .i64 0,.int .i64 0] 136)).setRow w7.heap.size #[.int .i64 y.four,.int .i64 0,.int .i64 0])
   generalize (w7.alloc (.cells #[.int .i64 0,.int .i64 0,.int .i64 0] 136)).setRow w7.heap.size #[.int .i64 y.four,.int .i64 0,.int .i64 0]=w8 at *
   generalize w7.heap.size=gt at *
   generalize y.four=a1 at *
   generalize y.rest 4=y1 at *
   go_wp2_with fail
   refine (inFour_any S8.inn S8.le).mono ?_
   rintro e w9 ⟨rfl,hb,ho⟩
   have S9:=S8.took hb ho
   have N9:=ho.blk N3 (by have:=hbh.1; omega)
   clear hb ho S8 N3
   generalize y1.four=a2 at *
   generalize y1.rest 4=y2 at *
   have cc:=N9.cell 1
   simp at cc
   have zz:=N9.frozen 1
   have S10:=S9.only (w':=w9.setCell ⟨gt,1,none⟩ (.int .i64 a2)) ((Only.refl (· = gt) w9).set (p:=⟨gt,1,none⟩) (.inl rfl) _) hbh hgt
   have N10:Blk (w9.setCell ⟨gt,1,none⟩ (.int .i64 a2)) gt 136 #[.int .i64 a1,.int .i64 a2,.int .i64 0]:=N9.set 1 _
   clear S9 N9
   go_wp2_with fail
   clear cc zz
   generalize w9.setCell ⟨gt,1,none⟩ (.int .i64 a2)=w10 at *
   refine (inFour_any S10.inn S10.le).mono ?_
   rintro e w11 ⟨rfl,hb,ho⟩
   have S11:=S10.took hb ho
   have N11:=ho.blk N10 (by have:=hbh.1; omega)
   clear hb ho S10 N10
   generalize y2.four=a3 at *
   generalize y2.rest 4=y3 at *
   have cc:=N11.cell 2
   simp at cc
   have zz:=N11.frozen 2
   have S12:=S11.only (w':=w11.setCell ⟨gt,2,none⟩ (.int .i64 a3)) ((Only.refl (· = gt) w11).set (p:=⟨gt,2,none⟩) (.inl rfl) _) hbh hgt
   have N12:Blk (w11.setCell ⟨gt,2,none⟩ (.int .i64 a3)) gt 136 #[.int .i64 a1,.int .i64 a2,.int .i64 a3]:=N11.set 2 _
   clear S11 N11
   go_upto_region 30 with (fail)
   clear cc zz
   generalize w11.setCell ⟨gt,2,none⟩ (.int .i64 a3)=w12 at *
   obtain ⟨va,vc,hvs⟩:=own_slice S12.t
   subst hvs
   obtain ⟨hi3,z31,z32,z33⟩:=id I3.out
   have c9:=S12.row.cell 9
   simp [recCells] at c9
   have z9:=S12.row.frozen 9
   have S13:=S12.more (w':=w12.alloc (.cells #[.int .i64 a1,.int .i64 a2,.int .i64 a3] 136)) ((Below.refl _ _).alloc (Nat.le_refl _) _)
   have hq13:=S13.below.size
   have own13:(w12.alloc (.cells #[.int .i64 a1,.int .i64 a2,.int .i64 a3] 136)).ownsRow w.heap.size 136 3 (.slice va ts.length vc) ts.length (rows3 ts):=S13.t
   have nq:=own_blk S13.t S13.row (by decide)
   have lg:=S13.row.lt
   have c13:=S13.row.cell 9
   have z13:=S13.row.frozen 9
   simp [recCells] at c13
   clear S12 hbh
   go_wp2_with (first
    | (refine wpList_load_row rfl 136 _ rfl gt rfl 136 _ (0,0) _ N12 Tryz.underlying136 rfl (by kernel_rfl) ?_)
    | (at_builtin; refine wpList_append_lies _ rfl (.tmp 102) (.tmp 104) 43 rfl w.heap.size 136 i3 (.agg #[.int .i64 0,.int .i64 0,.int .i64 0]) 3 24 Tryz.underlying43 hi3 z31 z32 z33 rfl (by decide) _ _ _ rfl own13 ⟨w12.heap.size,0,none⟩ 1 1 [.int .i64 a1,.int .i64 a2,.int .i64 a3] rfl rfl (World.news_of_block (heap_alloc_new w12 _)) (by simp [Value.oneCell']) (by omega) (by simp only [maxLen]; omega) (by omega) hq13 _ rfl ?_))
   intro gg cap w14 hown hgrow hat hlt5
   have z14:=(hgrow.frozen_far ⟨gr,9,none⟩ lg (Ne.symm nq)).trans z13
   have c14:=(hgrow.cell_far ⟨gr,9,none⟩ lg (Ne.symm nq)).trans c13
   have S14:=Lib.hid (S13.pushT (z:=(a1,a2,a3)) hown hgrow)
   clear hown hgrow hat hlt5 S13 own13 c9 z9 c13 z13 nq lg N12
   go_wp2
   go_roundw
   case rel=>exact ⟨i+1,ts++[(a1,a2,a3)],y3,_,by go_num,S14.out,HAL2.out⟩
   case measure=>simp [intOf]; omega
  ·have hdone:i=m∨y.bad=true:=by
    by_cases h1:i < m
    ·right
     cases hb:y.bad with
     | true=>rfl
     | false=>exact absurd ⟨h1,hb⟩ hgo
    · left; omega
   have HD:=Lib.hid (HAL.out.done hdone)
   have htl2:ts.length≤255:=by omega
   have HDN:=Lib.hid hdone
   clear hgo HAL htl hdone
   by_cases hlt:i < m
   all_goals
    first
     | (have hyb:y.bad=true:=by
         rcases HDN.out with h' | h'; · omega
         · exact h'
        rw [hyb] at i1
        clear hyb)
     | skip
    clear HDN
    go_wp2_with fail
    clear i1
    refine (inSmall_any S6.inn S6.le).mono ?_
    rintro e w15 ⟨rfl,hb,ho⟩
    have S15:=S6.took hb ho
    clear hb ho S6
    obtain ⟨m2,hm2⟩:∃ m:Nat,y.small.toNat=m:=⟨_,rfl⟩
    have im2:y.small=(m2:Int):=by have:0≤y.small:=Int.natCast_nonneg _; omega
    have bm2:m2≤255:=by have:y.small < 256:=(by unfold Rin.small; have:=((y.take 1).getD 0 0).toNat_lt; omega); omega
    rw [im2]
    have HM2:=Lib.hid hm2
    clear im2 hm2
    generalize hx4:y.rest 1=x4 at *
    have HX4:=Lib.hid hx4
    clear hx4
    have hm4:(m2:Int)≤255:=by omega
    go_wp2_with fail
    obtain ⟨i2,hi2,z21,z22,z23⟩:=info_parts info_page
    have I2:=Lib.hid (And.intro hi2 (And.intro z21 (And.intro z22 z23)))
    clear hi2 z21 z22 z23
    obtain ⟨vta,vtc,hvts⟩:=own_slice S15.t
    subst hvts
    have R15:=Lib.hid S15
    clear S15
    go_loopw [13] (fun vi wr=>∃ (i:Nat) (ps:List Row2) (z:Rin) (vp:Value),vi=.int .i64 i∧RS w wr (w.heap.size+1) gr w.heap.size z (Rc.mk 6 0 0 0 0 0 a ⟨#[]⟩ ⟨#[]⟩ ts ps) (.slice vta ts.length vtc) vp∧Rin.AlongP m2 x4 i ps z) (fun vi _=>m2 - (intOf vi).toNat)
    case atStart=>exact ⟨0,[],x4,_,rfl,R15.out,Rin.AlongP.start _ _⟩
    case round =>
     clear R5 R15
     obtain ⟨j,ps,z,vp,rfl,S6,hal⟩:=hrel
     have hjm:j≤m2:=hal.1
     have hpl:ps.length=j:=hal.2.1
     have HAL:=Lib.hid hal
     clear hal
     have i1:=S6.inn.cell 1
     simp [inV] at i1
     by_cases hgo:j < m2∧z.bad=false
     ·obtain ⟨hlt,hbf⟩:=hgo
      rw [hbf] at i1
      have hpl2:ps.length≤255:=by omega
      have HAL2:=Lib.hid (HAL.out.step hlt hbf)
      clear hbf hpl HAL
      go_wp2_with fail
      refine (inSmall_any S6.inn S6.le).mono ?_
      rintro e w7 ⟨rfl,hb,ho⟩
      have S7:=S6.took hb ho
      clear hb ho S6 i1
      have hn:=Blk.new w7 138 #[.int .i64 0,.int .i64 0]
      have N3:=hn.setRow #[.int .i64 z.small,.int .i64 0]
      have hb3:Below w7.heap.size w7 ((w7.alloc (.cells #[.int .i64 0,.int .i64 0] 138)).setRow w7.heap.size #[.int .i64 z.small,.int .i64 0]):=below_setRow ((Below.refl _ _).alloc (Nat.le_refl _) _) (Nat.le_refl _) _
      have S8:=S7.more hb3
      have hbh:=S7.behind (gt:=w7.heap.size) (Nat.le_refl _)
      have hgt:w.heap.size≤w7.heap.size:=S7.below.size
      go_upto_region 36 with (refine wpList_store_row rfl 138 _ _ rfl w7.heap.size _ rfl rfl 138 _ hn (by kernel_rfl) rfl (by simp [Value.oneCell']) ?_)
      clear hn hb3 S7
      change Code.wp _ _ _ _ ((w7.alloc (.cells #[.int .i64 0,.int .i64 0] 138)).setRow w7.heap.size #[.int .i64 z.small,.int .i64 0])
      generalize (w7.alloc (.cells #[.int .i64 0,.int .i64 0] 138)).setRow w7.heap.size #[.int .i64 z.small,.int .i64 0]=w8 at *
      generalize w7.heap.size=gt at *
      generalize z.small=a1 at *
      generalize z.rest 1=z1 at *
      go_wp2_with fail
      refine (inFour_any S8.inn S8.le).mono ?_
      rintro e w9 ⟨rfl,hb,ho⟩
      have S9:=S8.took hb ho
      have N9:=ho.blk N3 (by have:=hbh.1; omega)
      clear hb ho S8 N3
      generalize z1.four=a2 at *
      generalize z1.rest 4=z2 at *
      have cc:=N9.cell 1
      simp at cc
      have zz:=N9.frozen 1
      have S12:=S9.only (w':=w9.setCell ⟨gt,1,none⟩ (.int .i64 a2)) ((Only.refl (· = gt) w9).set (p:=⟨gt,1,none⟩) (.inl rfl) _) hbh hgt
      have N12:Blk (w9.setCell ⟨gt,1,none⟩ (.int .i64 a2)) gt 138 #[.int .i64 a1,.int .i64 a2]:=N9.set 1 _
      clear S9 N9
      go_upto_region 37 with (fail)
      clear cc zz
      generalize w9.setCell ⟨gt,1,none⟩ (.int .i64 a2)=w12 at *
      obtain ⟨va,vc,hvs⟩:=own_slice S12.p
      subst hvs
      obtain ⟨hi2,z21,z22,z23⟩:=id I2.out
      have c9:=S12.row.cell 10
      simp [recCells] at c9
      have S13:=S12.more (w':=w12.alloc (.cells #[.int .i64 a1,.int .i64 a2] 138)) ((Below.refl _ _).alloc (Nat.le_refl _) _)
      have hq13:=S13.below.size
      have own13:(w12.alloc (.cells #[.int .i64 a1,.int .i64 a2] 138)).ownsRow w.heap.size 138 2 (.slice va ps.length vc) ps.length (rows2 ps):=S13.p
      have nq:=own_blk S13.p S13.row (by decide)
      have lg:=S13.row.lt
      have c13:=S13.row.cell 10
      have z13:=S13.row.frozen 10
      simp [recCells] at c13
      clear S12 hbh
      go_wp2_with (first
       | (refine wpList_load_row rfl 138 _ rfl gt rfl 138 _ (0,0) _ N12 Tryz.underlying138 rfl (by kernel_rfl) ?_)
       | (at_builtin; refine wpList_append_lies _ rfl (.tmp 128) (.tmp 130) 44 rfl w.heap.size 138 i2 (.agg #[.int .i64 0,.int .i64 0]) 2 16 Tryz.underlying44 hi2 z21 z22 z23 rfl (by decide) _ _ _ rfl own13 ⟨w12.heap.size,0,none⟩ 1 1 [.int .i64 a1,.int .i64 a2] rfl rfl (World.news_of_block (heap_alloc_new w12 _)) (by simp [Value.oneCell']) (by omega) (by simp only [maxLen]; omega) (by omega) hq13 _ rfl ?_))
      intro gg cap w14 hown hgrow hat hlt5
      have z14:=(hgrow.frozen_far ⟨gr,10,none⟩ lg (Ne.symm nq)).trans z13
      have c14:=(hgrow.cell_far ⟨gr,10,none⟩ lg (Ne.symm nq)).trans c13
      have S14:=Lib.hid (S13.pushP (z:=(a1,a2)) hown hgrow)
      clear hown hgrow hat hlt5 S13 own13 c9 c13 z13 nq lg N12
      go_wp2
      go_roundw
      case rel=>exact ⟨j+1,ps++[(a1,a2)],z2,_,by go_num,S14.out,HAL2.out⟩
      case measure=>simp [intOf]; omega
     ·have hdone:j=m2∨z.bad=true:=by
       by_cases h1:j < m2
       ·right
        cases hb:z.bad with
        | true=>rfl
        | false=>exact absurd ⟨h1,hb⟩ hgo
       · left; omega
      have HD2:=Lib.hid (HAL.out.done hdone)
      have hpl2:ps.length≤255:=by omega
      have HDN:=Lib.hid hdone
      clear hgo HAL hpl hdone
      replace HREC:Hid (Rin.rec0 (rin0 s k)=((Rc.mk 6 0 0 0 0 0 a ⟨#[]⟩ ⟨#[]⟩ ts ps),z)):=by
       have e:Rin.rec0 (rin0 s k)=Rin.tables x1 { Rc.nil with kind:=6 }:=HREC.out
       show Rin.rec0 (rin0 s k)=_
       rw [e]
       exact Rin.tables_eq HA.out HM0.out (by rw [HX3.out]; exact HD.out) HM2.out (by rw [HX4.out]; exact HD2.out)
      by_cases hlt:j < m2
      all_goals
       first
        | (have hyb:z.bad=true:=by
            rcases HDN.out with h' | h'; · omega
            · exact h'
           rw [hyb] at i1
           clear hyb)
        | skip
       clear HDN
       go_upto_region 38 with (fail)
       clear i1 HA HM0 HM2 HD HD2 HX3 HX4 I2 I3
       obtain ⟨vpa,vpc,hvps⟩:=own_slice S6.p
       subst hvps
       have S0:=S6
       clear S6
       have hsz4:(Rc.mk 6 0 0 0 0 0 a ⟨#[]⟩ ⟨#[]⟩ ts ps).before.size≤maxLen∧(Rc.mk 6 0 0 0 0 0 a ⟨#[]⟩ ⟨#[]⟩ ts ps).after.size≤maxLen:=⟨Nat.zero_le _,Nat.zero_le _⟩
       have i1:=S0.inn.cell 1
       simp [inV] at i1
       have hnr:=S0.res
       by_cases hbad:z.bad=true
       ·have hR:=readR_no HH.out HREC.out (.inl hbad)
        have HR:=Lib.hid hR
        have HB:=Lib.hid (below_setRow S0.below (Nat.le_refl _) nilRow)
        rw [hbad] at i1
        clear hbad hR S0
        go_wp2_with (refine wpList_store_row rfl 46 _ _ rfl w.heap.size _ rfl rfl 46 _ hnr (by kernel_rfl) rfl (by simp [recCells,Value.oneCell']) ?_)
        refine bodyPost_ret (results_tt rfl _ _ w.heap.size 46 nilRow _ rfl (hnr.setRow _) Tryz.underlying46 rfl (by kernel_rfl)) rfl ?_
        rw [HR.out]
        exact ⟨_,_,rfl,Lists.nil _ _ rfl rfl,New.nil _,New.nil _,HB.out⟩
       ·have hbf:z.bad=false:=by simpa using hbad
        rw [hbf] at i1
        have N3:=S0.row
        have IR:=Lib.hid S0.isRec
        by_cases hm:May (Rc.mk 6 0 0 0 0 0 a ⟨#[]⟩ ⟨#[]⟩ ts ps)
        ·have HR:=Lib.hid (readR_yes HH.out HREC.out hbf hm)
         have HM:=Lib.hid (refMay_any IR.out hsz4 true ⟨fun _=>hm,fun _=>rfl⟩)
         clear hbad hbf hm
         go_wp2_with (refine wpList_load_rowG rfl 46 _ rfl gr rfl 46 _ (0,0) _ N3 Tryz.underlying46 rfl (by kernel_rfl) ?_)
         refine HM.out.mono ?_
         rintro e w6 ⟨rfl,hb6⟩
         have S6:=S0.more hb6
         have hyl:=rin0_le HREC.out
         have hy2:(⟨z.s.toArray⟩:ByteArray).size=z.s.length:=by simp [ByteArray.size]
         have hxR:=S6.xR
         have FACT:Hid (∀ W,Only (· = w.heap.size) w6.drew W→Blk W gr 46 (recCells (Rc.mk 6 0 0 0 0 0 a ⟨#[]⟩ ⟨#[]⟩ ts ps) (.slice vta ts.length vtc) (.slice vpa ps.length vpc))∧Blk W (w.heap.size+1) 176 (inV z)) :=
          fun W hW=>⟨hW.blk S6.drew.row S6.ne,hW.blk S6.drew.inn S6.xR.symm⟩
         have OUT:Hid (∀ W,Only (· = w.heap.size) w6.drew W→Lists W (Rc.mk 6 0 0 0 0 0 a ⟨#[]⟩ ⟨#[]⟩ ts ps) (.slice vta ts.length vtc) (.slice vpa ps.length vpc)∧Below w.heap.size w W) :=
          fun W hW=>⟨⟨.ofOwn (own_only S6.drew.t hW fun b hv e=>own_blk S6.drew.t S6.drew.res (by decide) (by rw [hv]; congr 1)),.ofOwn (own_only S6.drew.p hW fun b hv e=>own_blk S6.drew.p S6.drew.res (by decide) (by rw [hv]; congr 1))⟩,
           hW.below S6.drew.below S6.drew.below.size fun b e=>by omega⟩
         have NEW:Hid (New w (.slice vta ts.length vtc)∧New w (.slice vpa ps.length vpc)):=⟨.own S6.t (Nat.le_refl _),.own S6.p (Nat.le_refl _)⟩
         have RES:=Lib.hid S6.drew.res
         clear S0 N3 HM hb6 IR i1 hnr
         go_wp2_with fail
         refine' wp_region_store (S:=(· = w.heap.size)) 12 (.is _::.is _::.is _::.is _::.is _::.is _::.is _::.is _::.is _::.wrote w.heap.size 46 (recCells (Rc.mk 6 0 0 0 0 0 a ⟨#[]⟩ ⟨#[]⟩ ts ps) (.slice vta ts.length vtc) (.slice vpa ps.length vpc))::.is _::.is _::[]) (by kernel_rfl) (by kernel_rfl) (by kernel_rfl) (by kernel_rfl) rfl (by rfl) ?main
         case main =>
          apply obsS_step
          · rfl
          ·intro w4 hE4 hk
           have f:=(FACT.out w4 hE4).1
           clear hk hE4
           go_wp2_with (refine wpList_load_row rfl 46 _ rfl gr rfl 46 _ (0,0) _ f Tryz.underlying46 rfl (by kernel_rfl) ?_)
           refine postS_eq ?_ (Below.refl _ _)
           simp only [Act.put,sA,sB,sC]
           try rfl
          iterate 5
           ·simp only [Act.put,sA,sB,sC]
            rfl
           apply obsS_step
           · rfl
           ·intro w4 hE4 hk
            clear hk hE4
            go_wp2
            refine postS_eq ?_ (Below.refl _ _)
            simp only [Act.put,sA,sB,sC]
            try rfl
          ·simp only [Act.put,sA,sB,sC]
           rfl
          apply obsS_step
          · rfl
          ·intro w4 hE4 hk
           have f:=(FACT.out w4 hE4).2.cell 0
           simp [inV] at f
           clear hk hE4
           go_wp2
           refine postS_eq ?_ (Below.refl _ _)
           simp only [Act.put,sA,sB,sC]
           try rfl
          iterate 2
           ·simp only [Act.put,sA,sB,sC]
            rfl
           apply obsS_step
           · rfl
           ·intro w4 hE4 hk
            clear hk hE4
            go_wp2
            refine postS_eq ?_ (Below.refl _ _)
            simp only [Act.put,sA,sB,sC]
            try rfl
          ·simp only [Act.put,sA,sB,sC]
           rfl
          apply obsS_wrote
          · rfl
          ·intro w4 hE4 hk
           have f:=RES.out.keep hE4 RES.out.lt
           have g1:=f.setRow (recCells (Rc.mk 6 0 0 0 0 0 a ⟨#[]⟩ ⟨#[]⟩ ts ps) (.slice vta ts.length vtc) (.slice vpa ps.length vpc))
           have g2:Only (· = w.heap.size) w4 (w4.setRow w.heap.size (recCells (Rc.mk 6 0 0 0 0 0 a ⟨#[]⟩ ⟨#[]⟩ ts ps) (.slice vta ts.length vtc) (.slice vpa ps.length vpc))):=(Only.refl (· = w.heap.size) w4).setRow (g:=w.heap.size) (.inl rfl) _
           clear hk hE4
           go_wp2_with (refine wpList_store_row rfl 46 _ _ rfl w.heap.size _ rfl rfl 46 _ f (by kernel_rfl) rfl (by simp [recCells,Value.oneCell']) ?_)
           exact postS_wrote rfl g1 g2
          ·intro x
           simp only [Act.put,sA,sB,sC]
           try rfl
          intro x
          iterate 2
           apply obsS_step
           · rfl
           ·intro w4 hE4 hk
            clear hk hE4
            go_wp2
            refine postS_eq ?_ (Below.refl _ _)
            simp only [Act.put,sA,sB,sC]
            try rfl
           ·simp only [Act.put,sA,sB,sC]
            rfl
          refine obsS_end fun w7 hE hkn=>?_
          have hg:Blk w7 w.heap.size 46 (recCells (Rc.mk 6 0 0 0 0 0 a ⟨#[]⟩ ⟨#[]⟩ ts ps) (.slice vta ts.length vtc) (.slice vpa ps.length vpc)):=hkn _ (List.mem_cons_self)
          obtain ⟨hl,hB⟩:=OUT.out w7 hE
          have HL:=Lib.hid hl
          have HB:=Lib.hid hB
          clear hl hB hE hkn
          change wpList _ _ _ _ _ _
          go_wp2
          refine bodyPost_ret (results_tt rfl _ _ w.heap.size 46 (recCells (Rc.mk 6 0 0 0 0 0 a ⟨#[]⟩ ⟨#[]⟩ ts ps) (.slice vta ts.length vtc) (.slice vpa ps.length vpc)) _ rfl hg Tryz.underlying46 rfl (by kernel_rfl)) rfl ?_
          rw [HR.out]
          exact ⟨_,_,rfl,HL.out,NEW.out.1,NEW.out.2,HB.out⟩
        ·have HR:=Lib.hid (readR_no HH.out HREC.out (.inr hm))
         have HM:=Lib.hid (refMay_any IR.out hsz4 false ⟨fun h=>(by cases h),fun h=>absurd h hm⟩)
         clear hbad hbf hm
         go_wp2_with (refine wpList_load_rowG rfl 46 _ rfl gr rfl 46 _ (0,0) _ N3 Tryz.underlying46 rfl (by kernel_rfl) ?_)
         refine HM.out.mono ?_
         rintro e w6 ⟨rfl,hb6⟩
         have S6:=S0.more hb6
         have hnr:=S6.res
         have HB:=Lib.hid (below_setRow S6.below (Nat.le_refl _) nilRow)
         clear S0 N3 HM hb6 IR i1 S6
         go_wp2_with (refine wpList_store_row rfl 46 _ _ rfl w.heap.size _ rfl rfl 46 _ hnr (by kernel_rfl) rfl (by simp [recCells,Value.oneCell']) ?_)
         refine bodyPost_ret (results_tt rfl _ _ w.heap.size 46 nilRow _ rfl (hnr.setRow _) Tryz.underlying46 rfl (by kernel_rfl)) rfl ?_
         rw [HR.out]
         exact ⟨_,_,rfl,Lists.nil _ _ rfl rfl,New.nil _,New.nil _,HB.out⟩
end Go.Proofs.YthkbcfhjmnpggaaGreat
