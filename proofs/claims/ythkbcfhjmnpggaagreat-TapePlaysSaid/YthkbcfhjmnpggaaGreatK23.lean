/- Texts that belong together, joined: RecT. -/
import Derived.Test.YthkbcfhjmnpggaaGreatK22
import Derived.Test.YthkbcfhjmnpggaaGreatK07
import Derived.Test.YthkbcfhjmnpggaaGreatK13
namespace Go.Proofs.YthkbcfhjmnpggaaGreat
open Go.RowKit
theorem may_kind {r:Rc} (h:May r):r.kind=1∨r.kind=2∨r.kind=3∨r.kind=4∨r.kind=5∨r.kind=6:=by
 cases h with
 | upd=>exact .inl rfl
 | und=>exact .inr (.inl rfl)
 | com hk =>
    rcases hk with rfl | rfl
    · exact .inr (.inr (.inl rfl))
    · exact .inr (.inr (.inr (.inl rfl)))
 | beg=>exact .inr (.inr (.inr (.inr (.inl rfl))))
 | tab=>exact .inr (.inr (.inr (.inr (.inr rfl))))
theorem may1 {r:Rc} (hk:r.kind=1):May r↔1≤r.txn∧allNum [r.txn,r.prev]=true∧Spot r.page r.off r.after∧r.before.size=r.after.size∧r=.upd r.txn r.prev r.page r.off r.before r.after:=by
 constructor
 ·intro h
  cases h with
  | upd ht hn hp hs hb=>exact ⟨ht,by simpa [allNum,Rc.upd] using ⟨hn,hp⟩,hs,hb,rfl⟩
  | und=>simp [Rc.und] at hk
  | com h=>simp [Rc.com] at hk; omega
  | beg=>simp [Rc.begin5,Rc.com] at hk
  | tab=>simp [Rc.tab] at hk
 ·rintro ⟨h1,h2,h3,h4,h5⟩
  simp [allNum] at h2
  rw [h5]
  exact .upd h1 h2.1 h2.2 h3 h4
theorem may2 {r:Rc} (hk:r.kind=2):May r↔1≤r.txn∧allNum [r.txn,r.prev,r.next]=true∧Spot r.page r.off r.after∧r=.und r.txn r.prev r.next r.page r.off r.after:=by
 constructor
 ·intro h
  cases h with
  | upd=>simp [Rc.upd] at hk
  | und ht hn hp hx hs=>exact ⟨ht,by simpa [allNum,Rc.und] using ⟨hn,hp,hx⟩,hs,rfl⟩
  | com h=>simp [Rc.com] at hk; omega
  | beg=>simp [Rc.begin5,Rc.com] at hk
  | tab=>simp [Rc.tab] at hk
 ·rintro ⟨h1,h2,h3,h5⟩
  simp [allNum] at h2
  rw [h5]
  exact .und h1 h2.1 h2.2.1 h2.2.2 h3
theorem may34 {r:Rc} (hk:r.kind=3∨r.kind=4):May r↔1≤r.txn∧allNum [r.txn,r.prev]=true∧r=.com r.kind r.txn r.prev:=by
 constructor
 ·intro h
  cases h with
  | upd=>simp [Rc.upd] at hk
  | und=>simp [Rc.und] at hk
  | com h ht hn hp=>exact ⟨ht,by simpa [allNum,Rc.com] using ⟨hn,hp⟩,rfl⟩
  | beg=>simp [Rc.begin5,Rc.com] at hk
  | tab=>simp [Rc.tab] at hk
 ·rintro ⟨h1,h2,h5⟩
  simp [allNum] at h2
  rw [h5]
  exact .com hk h1 h2.1 h2.2
theorem may5 {r:Rc} (hk:r.kind=5):May r↔r=.begin5:=by
 constructor
 ·intro h
  cases h with
  | upd=>simp [Rc.upd] at hk
  | und=>simp [Rc.und] at hk
  | com h=>simp [Rc.com] at hk; omega
  | beg=>rfl
  | tab=>simp [Rc.tab] at hk
 ·rintro rfl
  exact .beg
theorem may6 {r:Rc} (hk:r.kind=6):May r↔(allNum [r.beg]=true∧r.txns.length≤4∧r.pages.length≤8∧r=.tab r.beg r.txns r.pages)∧(∀ x ∈ r.txns,Row3Ok x)∧∀ x ∈ r.pages,Row2Ok x:=by
 constructor
 ·intro h
  cases h with
  | upd=>simp [Rc.upd] at hk
  | und=>simp [Rc.und] at hk
  | com h=>simp [Rc.com] at hk; omega
  | beg=>simp [Rc.begin5,Rc.com] at hk
  | tab hb ht hp h3 h2=>exact ⟨⟨by simpa [allNum,Rc.tab] using hb,ht,hp,rfl⟩,h3,h2⟩
 ·rintro ⟨⟨h1,h2,h3,h4⟩,h5,h6⟩
  simp [allNum] at h1
  rw [h4]
  exact .tab h1 h2 h3 h5 h6
set_option maxRecDepth 100000 in
set_option maxHeartbeats 16000000 in
theorem refMay_1 {w:World} {v:Value} {r:Rc} (hv:IsRec w v r) (hs:r.before.size≤maxLen∧r.after.size≤maxLen) (hk:r.kind=1) (yes:Bool) (hy:yes=true↔May r) :
 Calls Tryz.prog 40 #[v] w fun e w'=>e=.returned (.bool yes)∧Below w.heap.size w w':=by
 obtain ⟨vt,vp,rfl,hl⟩:=hv
 rw [may1 hk] at hy
 have HY:=Lib.hid hy
 have one:=hl.one
 have N0:Blk ((w.alloc (.cells (recCells r vt vp) 46)).alloc (.cells #[.int .i64 0,.int .i64 0,.int .i64 0,.int .i64 0,.int .i64 0,.int .i64 0,.int .i64 0,.string ⟨#[]⟩,.string ⟨#[]⟩,.slice none 0 0,.slice none 0 0] 46)) (w.heap.size+1) 46 #[.int .i64 0,.int .i64 0,.int .i64 0,.int .i64 0,.int .i64 0,.int .i64 0,.int .i64 0,.string ⟨#[]⟩,.string ⟨#[]⟩,.slice none 0 0,.slice none 0 0]:=by
  have:=Blk.new (w.alloc (.cells (recCells r vt vp) 46)) 46 #[.int .i64 0,.int .i64 0,.int .i64 0,.int .i64 0,.int .i64 0,.int .i64 0,.int .i64 0,.string ⟨#[]⟩,.string ⟨#[]⟩,.slice none 0 0,.slice none 0 0]
  rwa [World.size_alloc] at this
 have P0:=(Blk.new w 46 (recCells r vt vp))
 have PA:=((Blk.new w 46 (recCells r vt vp)).alloc (.cells #[.int .i64 0,.int .i64 0,.int .i64 0,.int .i64 0,.int .i64 0,.int .i64 0,.int .i64 0,.string ⟨#[]⟩,.string ⟨#[]⟩,.slice none 0 0,.slice none 0 0] 46)).farRow (k:=w.heap.size+1) (by omega) (recCells r vt vp)
 have PO:=N0.setRow (recCells r vt vp)
 have hB:Below w.heap.size w (((w.alloc (.cells (recCells r vt vp) 46)).alloc (.cells #[.int .i64 0,.int .i64 0,.int .i64 0,.int .i64 0,.int .i64 0,.int .i64 0,.int .i64 0,.string ⟨#[]⟩,.string ⟨#[]⟩,.slice none 0 0,.slice none 0 0] 46)).setRow (w.heap.size+1) (recCells r vt vp)):=below_setRow (((Below.refl _ _).alloc (Nat.le_refl _) _).alloc (by simp) _) (by omega) _
 have LL:=Lib.hid (hl.keep hB)
 have HB:=Lib.hid hB
 have e0:(recCells r vt vp)[0]? = some (.int .i64 r.kind):=rfl
 have e1:(recCells r vt vp)[1]? = some (.int .i64 r.txn):=rfl
 have e2:(recCells r vt vp)[2]? = some (.int .i64 r.page):=rfl
 have e3:(recCells r vt vp)[3]? = some (.int .i64 r.off):=rfl
 have e4:(recCells r vt vp)[4]? = some (.int .i64 r.prev):=rfl
 have e5:(recCells r vt vp)[5]? = some (.int .i64 r.next):=rfl
 have e6:(recCells r vt vp)[6]? = some (.int .i64 r.beg):=rfl
 have e7:(recCells r vt vp)[7]? = some (.string r.before):=rfl
 have e8:(recCells r vt vp)[8]? = some (.string r.after):=rfl
 have e9:(recCells r vt vp)[9]? = some vt:=rfl
 have e10:(recCells r vt vp)[10]? = some vp:=rfl
 obtain ⟨z1,z2⟩:=hs
 clear hy hl hB
 have E1:=e1
 have E2:=e2
 have E3:=e3
 have E4:=e4
 have E5:=e5
 have E6:=e6
 have E7:=e7
 have E8:=e8
 have E9:=e9
 have E10:=e10
 have E0:(recCells r vt vp)[0]? = some (.int .i64 1):=by rw [← hk]; rfl
 have HK:=Lib.hid hk
 clear hk e0 e1 e2 e3 e4 e5 e6 e7 e8 e9 e10
 unfold recV
 go_enter Tryz.func40,Tryz.ntmps40
 go_upto_region 2 with (first
  | (refine wpList_load_row rfl 46 _ rfl w.heap.size rfl 46 _ (0,0) _ P0 Tryz.underlying46 rfl (by kernel_rfl) ?_)
  | (refine wpList_store_row rfl 46 _ _ rfl (w.heap.size+1) _ rfl rfl 46 _ N0 (by kernel_rfl) rfl one ?_))
 have PP:=Lib.hid PA
 have QQ:=Lib.hid PO
 clear P0 N0 one PA PO
 generalize (((w.alloc (.cells (recCells r vt vp) 46)).alloc (.cells #[.int .i64 0,.int .i64 0,.int .i64 0,.int .i64 0,.int .i64 0,.int .i64 0,.int .i64 0,.string ⟨#[]⟩,.string ⟨#[]⟩,.slice none 0 0,.slice none 0 0] 46)).setRow (w.heap.size+1) (recCells r vt vp))=W1 at *
 have c0:=(PP.out.cell 0).trans E0
 have c1:=(PP.out.cell 1).trans E1
 have c2:=(PP.out.cell 2).trans E2
 have c3:=(PP.out.cell 3).trans E3
 have c4:=(PP.out.cell 4).trans E4
 have c5:=(PP.out.cell 5).trans E5
 have c6:=(PP.out.cell 6).trans E6
 have c7:=(PP.out.cell 7).trans E7
 have c8:=(PP.out.cell 8).trans E8
 by_cases h1:1≤r.txn
 ·have c0:=(PP.out.cell 0).trans E0
  have c1:=(PP.out.cell 1).trans E1
  have c2:=(PP.out.cell 2).trans E2
  have c3:=(PP.out.cell 3).trans E3
  have c4:=(PP.out.cell 4).trans E4
  have c5:=(PP.out.cell 5).trans E5
  have c6:=(PP.out.cell 6).trans E6
  have c7:=(PP.out.cell 7).trans E7
  have c8:=(PP.out.cell 8).trans E8
  have hb2:Below W1.heap.size W1 (W1.alloc (.cells (intsV [r.txn,r.prev]) 3)):=(Below.refl _ _).alloc (Nat.le_refl _) _
  have P2:=PP.out.keep hb2 PP.out.lt
  have Q2:=QQ.out.keep hb2 QQ.out.lt
  have L2:=Lib.hid (LL.out.keep hb2)
  have HB2:=Lib.hid (HB.out.trans (hb2.mono HB.out.size))
  by_cases h2:allNum [r.txn,r.prev]=true
  ·go_wp2_with fail
   refine (num_any (l:=[r.txn,r.prev]) (Blk.new W1 _ _) (by simp) true h2.symm).mono ?_
   rintro e w2 ⟨rfl,rfl⟩
   have H2:=Lib.hid h2
   clear hb2 h2 PP QQ LL HB
   generalize (W1.alloc (.cells (intsV [r.txn,r.prev]) 3))=W2 at *
   clear c0 c1 c2 c3 c4 c5 c6 c7 c8
   have c0:=(P2.cell 0).trans E0
   have c1:=(P2.cell 1).trans E1
   have c2:=(P2.cell 2).trans E2
   have c3:=(P2.cell 3).trans E3
   have c4:=(P2.cell 4).trans E4
   have c5:=(P2.cell 5).trans E5
   have c6:=(P2.cell 6).trans E6
   have c7:=(P2.cell 7).trans E7
   have c8:=(P2.cell 8).trans E8
   by_cases h3:Spot r.page r.off r.after
   ·go_wp2_with (first
     | (refine wpList_load_rowG rfl 46 _ rfl w.heap.size rfl 46 _ (0,0) _ P2 Tryz.underlying46 rfl (by kernel_rfl) ?_)
     | (refine wpList_load_rowG rfl 46 _ rfl (w.heap.size+1) rfl 46 _ (0,0) _ Q2 Tryz.underlying46 rfl (by kernel_rfl) ?_))
    refine (refSpot_any ⟨vt,vp,rfl,L2.out⟩ z2 true (by simp [h3])).mono ?_
    rintro e w3 ⟨rfl,hb3⟩
    have P3:=P2.keep hb3 P2.lt
    have Q3:=Q2.keep hb3 Q2.lt
    have L3:=Lib.hid (L2.out.keep hb3)
    have HB3:=Lib.hid (below2 HB2.out hb3)
    have H3:=Lib.hid h3
    clear hb3 h3 P2 Q2 L2 HB2
    clear c0 c1 c2 c3 c4 c5 c6 c7 c8
    have c0:=(P3.cell 0).trans E0
    have c1:=(P3.cell 1).trans E1
    have c2:=(P3.cell 2).trans E2
    have c3:=(P3.cell 3).trans E3
    have c4:=(P3.cell 4).trans E4
    have c5:=(P3.cell 5).trans E5
    have c6:=(P3.cell 6).trans E6
    have c7:=(P3.cell 7).trans E7
    have c8:=(P3.cell 8).trans E8
    have e7':=z1
    unfold maxLen at z1 z2
    by_cases h4:r.before.size=r.after.size
    ·have h4':((r.before.size:Int) == r.after.size)=true:=by simp [h4]
     have H4:=Lib.hid h4
     clear h4
     by_cases h5:r=Rc.upd r.txn r.prev r.page r.off r.before r.after
     ·have H5:=Lib.hid h5
      clear h5
      go_wp2_with (first
       | (refine wpList_load_rowG rfl 46 _ rfl w.heap.size rfl 46 _ (0,0) _ P3 Tryz.underlying46 rfl (by kernel_rfl) ?_)
       | (refine wpList_load_rowG rfl 46 _ rfl (w.heap.size+1) rfl 46 _ (0,0) _ Q3 Tryz.underlying46 rfl (by kernel_rfl) ?_))
      refine (refSame_any ⟨vt,vp,rfl,L3.out⟩ ⟨_,_,rfl,Lists.nil _ (Rc.upd r.txn r.prev r.page r.off r.before r.after) rfl rfl⟩ true (by rw [decide_eq_true H5.out])).mono ?_
      rintro e w9 ⟨rfl,hb9⟩
      have HB9:=Lib.hid (below2 HB3.out hb9)
      have hyes:yes=true:=HY.out.2 ⟨h1,H2.out,H3.out,H4.out,H5.out⟩
      subst hyes
      clear HY H5 hb9 P3 Q3 L3 HB3
      go_wp2
      go_ret
      exact ⟨rfl,HB9.out⟩
     ·have H5:=Lib.hid h5
      clear h5
      go_wp2_with (first
       | (refine wpList_load_rowG rfl 46 _ rfl w.heap.size rfl 46 _ (0,0) _ P3 Tryz.underlying46 rfl (by kernel_rfl) ?_)
       | (refine wpList_load_rowG rfl 46 _ rfl (w.heap.size+1) rfl 46 _ (0,0) _ Q3 Tryz.underlying46 rfl (by kernel_rfl) ?_))
      refine (refSame_any ⟨vt,vp,rfl,L3.out⟩ ⟨_,_,rfl,Lists.nil _ (Rc.upd r.txn r.prev r.page r.off r.before r.after) rfl rfl⟩ false (by rw [decide_eq_false H5.out])).mono ?_
      rintro e w9 ⟨rfl,hb9⟩
      have HB9:=Lib.hid (below2 HB3.out hb9)
      have hno:yes=false:=Bool.eq_false_iff.2 fun h=>H5.out (HY.out.1 h).2.2.2.2
      subst hno
      clear HY
      clear hb9 P3 Q3 L3 HB3
      go_wp2
      go_ret
      exact ⟨rfl,HB9.out⟩
    ·have h4':((r.before.size:Int) == r.after.size)=false:=by rw [beq_eq_false_iff_ne]; omega
     have hno:yes=false:=Bool.eq_false_iff.2 fun h=>h4 (HY.out.1 h).2.2.2.1
     subst hno
     clear HY
     go_wp2
     go_ret
     exact ⟨rfl,HB3.out⟩
   ·go_wp2_with (first
     | (refine wpList_load_rowG rfl 46 _ rfl w.heap.size rfl 46 _ (0,0) _ P2 Tryz.underlying46 rfl (by kernel_rfl) ?_)
     | (refine wpList_load_rowG rfl 46 _ rfl (w.heap.size+1) rfl 46 _ (0,0) _ Q2 Tryz.underlying46 rfl (by kernel_rfl) ?_))
    refine (refSpot_any ⟨vt,vp,rfl,L2.out⟩ z2 false (by simp [h3])).mono ?_
    rintro e w3 ⟨rfl,hb3⟩
    have HB3:=Lib.hid (below2 HB2.out hb3)
    have hno:yes=false:=Bool.eq_false_iff.2 fun h=>h3 (HY.out.1 h).2.2.1
    subst hno
    clear HY
    clear hb3 P2 Q2 L2 HB2
    go_wp2
    go_ret
    exact ⟨rfl,HB3.out⟩
  ·go_wp2_with fail
   refine (num_any (l:=[r.txn,r.prev]) (Blk.new W1 _ _) (by simp) false (by simpa using h2)).mono ?_
   rintro e w2 ⟨rfl,rfl⟩
   have hno:yes=false:=Bool.eq_false_iff.2 fun h=>h2 (HY.out.1 h).2.1
   subst hno
   clear HY
   clear hb2 P2 Q2 PP QQ LL HB L2
   go_wp2
   go_ret
   exact ⟨rfl,HB2.out⟩
 ·have hno:yes=false:=Bool.eq_false_iff.2 fun h=>h1 (HY.out.1 h).1
  subst hno
  clear HY
  go_wp2
  go_ret
  exact ⟨rfl,HB.out⟩
set_option maxRecDepth 100000 in
set_option maxHeartbeats 16000000 in
theorem refMay_2 {w:World} {v:Value} {r:Rc} (hv:IsRec w v r) (hs:r.before.size≤maxLen∧r.after.size≤maxLen) (hk:r.kind=2) (yes:Bool) (hy:yes=true↔May r) :
 Calls Tryz.prog 40 #[v] w fun e w'=>e=.returned (.bool yes)∧Below w.heap.size w w':=by
 obtain ⟨vt,vp,rfl,hl⟩:=hv
 rw [may2 hk] at hy
 have HY:=Lib.hid hy
 have one:=hl.one
 have N0:Blk ((w.alloc (.cells (recCells r vt vp) 46)).alloc (.cells #[.int .i64 0,.int .i64 0,.int .i64 0,.int .i64 0,.int .i64 0,.int .i64 0,.int .i64 0,.string ⟨#[]⟩,.string ⟨#[]⟩,.slice none 0 0,.slice none 0 0] 46)) (w.heap.size+1) 46 #[.int .i64 0,.int .i64 0,.int .i64 0,.int .i64 0,.int .i64 0,.int .i64 0,.int .i64 0,.string ⟨#[]⟩,.string ⟨#[]⟩,.slice none 0 0,.slice none 0 0]:=by
  have:=Blk.new (w.alloc (.cells (recCells r vt vp) 46)) 46 #[.int .i64 0,.int .i64 0,.int .i64 0,.int .i64 0,.int .i64 0,.int .i64 0,.int .i64 0,.string ⟨#[]⟩,.string ⟨#[]⟩,.slice none 0 0,.slice none 0 0]
  rwa [World.size_alloc] at this
 have P0:=(Blk.new w 46 (recCells r vt vp))
 have PA:=((Blk.new w 46 (recCells r vt vp)).alloc (.cells #[.int .i64 0,.int .i64 0,.int .i64 0,.int .i64 0,.int .i64 0,.int .i64 0,.int .i64 0,.string ⟨#[]⟩,.string ⟨#[]⟩,.slice none 0 0,.slice none 0 0] 46)).farRow (k:=w.heap.size+1) (by omega) (recCells r vt vp)
 have PO:=N0.setRow (recCells r vt vp)
 have hB:Below w.heap.size w (((w.alloc (.cells (recCells r vt vp) 46)).alloc (.cells #[.int .i64 0,.int .i64 0,.int .i64 0,.int .i64 0,.int .i64 0,.int .i64 0,.int .i64 0,.string ⟨#[]⟩,.string ⟨#[]⟩,.slice none 0 0,.slice none 0 0] 46)).setRow (w.heap.size+1) (recCells r vt vp)):=below_setRow (((Below.refl _ _).alloc (Nat.le_refl _) _).alloc (by simp) _) (by omega) _
 have LL:=Lib.hid (hl.keep hB)
 have HB:=Lib.hid hB
 have e0:(recCells r vt vp)[0]? = some (.int .i64 r.kind):=rfl
 have e1:(recCells r vt vp)[1]? = some (.int .i64 r.txn):=rfl
 have e2:(recCells r vt vp)[2]? = some (.int .i64 r.page):=rfl
 have e3:(recCells r vt vp)[3]? = some (.int .i64 r.off):=rfl
 have e4:(recCells r vt vp)[4]? = some (.int .i64 r.prev):=rfl
 have e5:(recCells r vt vp)[5]? = some (.int .i64 r.next):=rfl
 have e6:(recCells r vt vp)[6]? = some (.int .i64 r.beg):=rfl
 have e7:(recCells r vt vp)[7]? = some (.string r.before):=rfl
 have e8:(recCells r vt vp)[8]? = some (.string r.after):=rfl
 have e9:(recCells r vt vp)[9]? = some vt:=rfl
 have e10:(recCells r vt vp)[10]? = some vp:=rfl
 obtain ⟨z1,z2⟩:=hs
 clear hy hl hB
 have E1:=e1
 have E2:=e2
 have E3:=e3
 have E4:=e4
 have E5:=e5
 have E6:=e6
 have E7:=e7
 have E8:=e8
 have E9:=e9
 have E10:=e10
 have E0:(recCells r vt vp)[0]? = some (.int .i64 2):=by rw [← hk]; rfl
 have HK:=Lib.hid hk
 clear hk e0 e1 e2 e3 e4 e5 e6 e7 e8 e9 e10
 unfold recV
 go_enter Tryz.func40,Tryz.ntmps40
 go_upto_region 2 with (first
  | (refine wpList_load_row rfl 46 _ rfl w.heap.size rfl 46 _ (0,0) _ P0 Tryz.underlying46 rfl (by kernel_rfl) ?_)
  | (refine wpList_store_row rfl 46 _ _ rfl (w.heap.size+1) _ rfl rfl 46 _ N0 (by kernel_rfl) rfl one ?_))
 have PP:=Lib.hid PA
 have QQ:=Lib.hid PO
 clear P0 N0 one PA PO
 generalize (((w.alloc (.cells (recCells r vt vp) 46)).alloc (.cells #[.int .i64 0,.int .i64 0,.int .i64 0,.int .i64 0,.int .i64 0,.int .i64 0,.int .i64 0,.string ⟨#[]⟩,.string ⟨#[]⟩,.slice none 0 0,.slice none 0 0] 46)).setRow (w.heap.size+1) (recCells r vt vp))=W1 at *
 have c0:=(PP.out.cell 0).trans E0
 have c1:=(PP.out.cell 1).trans E1
 have c2:=(PP.out.cell 2).trans E2
 have c3:=(PP.out.cell 3).trans E3
 have c4:=(PP.out.cell 4).trans E4
 have c5:=(PP.out.cell 5).trans E5
 have c6:=(PP.out.cell 6).trans E6
 have c7:=(PP.out.cell 7).trans E7
 have c8:=(PP.out.cell 8).trans E8
 by_cases h1:1≤r.txn
 ·have c0:=(PP.out.cell 0).trans E0
  have c1:=(PP.out.cell 1).trans E1
  have c2:=(PP.out.cell 2).trans E2
  have c3:=(PP.out.cell 3).trans E3
  have c4:=(PP.out.cell 4).trans E4
  have c5:=(PP.out.cell 5).trans E5
  have c6:=(PP.out.cell 6).trans E6
  have c7:=(PP.out.cell 7).trans E7
  have c8:=(PP.out.cell 8).trans E8
  have hb2:Below W1.heap.size W1 (W1.alloc (.cells (intsV [r.txn,r.prev,r.next]) 3)):=(Below.refl _ _).alloc (Nat.le_refl _) _
  have P2:=PP.out.keep hb2 PP.out.lt
  have Q2:=QQ.out.keep hb2 QQ.out.lt
  have L2:=Lib.hid (LL.out.keep hb2)
  have HB2:=Lib.hid (HB.out.trans (hb2.mono HB.out.size))
  by_cases h2:allNum [r.txn,r.prev,r.next]=true
  ·go_wp2_with fail
   refine (num_any (l:=[r.txn,r.prev,r.next]) (Blk.new W1 _ _) (by simp) true h2.symm).mono ?_
   rintro e w2 ⟨rfl,rfl⟩
   have H2:=Lib.hid h2
   clear hb2 h2 PP QQ LL HB
   generalize (W1.alloc (.cells (intsV [r.txn,r.prev,r.next]) 3))=W2 at *
   clear c0 c1 c2 c3 c4 c5 c6 c7 c8
   have c0:=(P2.cell 0).trans E0
   have c1:=(P2.cell 1).trans E1
   have c2:=(P2.cell 2).trans E2
   have c3:=(P2.cell 3).trans E3
   have c4:=(P2.cell 4).trans E4
   have c5:=(P2.cell 5).trans E5
   have c6:=(P2.cell 6).trans E6
   have c7:=(P2.cell 7).trans E7
   have c8:=(P2.cell 8).trans E8
   by_cases h3:Spot r.page r.off r.after
   ·go_wp2_with (first
     | (refine wpList_load_rowG rfl 46 _ rfl w.heap.size rfl 46 _ (0,0) _ P2 Tryz.underlying46 rfl (by kernel_rfl) ?_)
     | (refine wpList_load_rowG rfl 46 _ rfl (w.heap.size+1) rfl 46 _ (0,0) _ Q2 Tryz.underlying46 rfl (by kernel_rfl) ?_))
    refine (refSpot_any ⟨vt,vp,rfl,L2.out⟩ z2 true (by simp [h3])).mono ?_
    rintro e w3 ⟨rfl,hb3⟩
    have P3:=P2.keep hb3 P2.lt
    have Q3:=Q2.keep hb3 Q2.lt
    have L3:=Lib.hid (L2.out.keep hb3)
    have HB3:=Lib.hid (below2 HB2.out hb3)
    have H3:=Lib.hid h3
    clear hb3 h3 P2 Q2 L2 HB2
    clear c0 c1 c2 c3 c4 c5 c6 c7 c8
    have c0:=(P3.cell 0).trans E0
    have c1:=(P3.cell 1).trans E1
    have c2:=(P3.cell 2).trans E2
    have c3:=(P3.cell 3).trans E3
    have c4:=(P3.cell 4).trans E4
    have c5:=(P3.cell 5).trans E5
    have c6:=(P3.cell 6).trans E6
    have c7:=(P3.cell 7).trans E7
    have c8:=(P3.cell 8).trans E8
    by_cases h5:r=Rc.und r.txn r.prev r.next r.page r.off r.after
    ·have H5:=Lib.hid h5
     clear h5
     go_wp2_with (first
      | (refine wpList_load_rowG rfl 46 _ rfl w.heap.size rfl 46 _ (0,0) _ P3 Tryz.underlying46 rfl (by kernel_rfl) ?_)
      | (refine wpList_load_rowG rfl 46 _ rfl (w.heap.size+1) rfl 46 _ (0,0) _ Q3 Tryz.underlying46 rfl (by kernel_rfl) ?_))
     refine (refSame_any ⟨vt,vp,rfl,L3.out⟩ ⟨_,_,rfl,Lists.nil _ (Rc.und r.txn r.prev r.next r.page r.off r.after) rfl rfl⟩ true (by rw [decide_eq_true H5.out])).mono ?_
     rintro e w9 ⟨rfl,hb9⟩
     have HB9:=Lib.hid (below2 HB3.out hb9)
     have hyes:yes=true:=HY.out.2 ⟨h1,H2.out,H3.out,H5.out⟩
     subst hyes
     clear HY H5 hb9 P3 Q3 L3 HB3
     go_wp2
     go_ret
     exact ⟨rfl,HB9.out⟩
    ·have H5:=Lib.hid h5
     clear h5
     go_wp2_with (first
      | (refine wpList_load_rowG rfl 46 _ rfl w.heap.size rfl 46 _ (0,0) _ P3 Tryz.underlying46 rfl (by kernel_rfl) ?_)
      | (refine wpList_load_rowG rfl 46 _ rfl (w.heap.size+1) rfl 46 _ (0,0) _ Q3 Tryz.underlying46 rfl (by kernel_rfl) ?_))
     refine (refSame_any ⟨vt,vp,rfl,L3.out⟩ ⟨_,_,rfl,Lists.nil _ (Rc.und r.txn r.prev r.next r.page r.off r.after) rfl rfl⟩ false (by rw [decide_eq_false H5.out])).mono ?_
     rintro e w9 ⟨rfl,hb9⟩
     have HB9:=Lib.hid (below2 HB3.out hb9)
     have hno:yes=false:=Bool.eq_false_iff.2 fun h=>H5.out (HY.out.1 h).2.2.2
     subst hno
     clear HY
     clear hb9 P3 Q3 L3 HB3
     go_wp2
     go_ret
     exact ⟨rfl,HB9.out⟩
   ·go_wp2_with (first
     | (refine wpList_load_rowG rfl 46 _ rfl w.heap.size rfl 46 _ (0,0) _ P2 Tryz.underlying46 rfl (by kernel_rfl) ?_)
     | (refine wpList_load_rowG rfl 46 _ rfl (w.heap.size+1) rfl 46 _ (0,0) _ Q2 Tryz.underlying46 rfl (by kernel_rfl) ?_))
    refine (refSpot_any ⟨vt,vp,rfl,L2.out⟩ z2 false (by simp [h3])).mono ?_
    rintro e w3 ⟨rfl,hb3⟩
    have HB3:=Lib.hid (below2 HB2.out hb3)
    have hno:yes=false:=Bool.eq_false_iff.2 fun h=>h3 (HY.out.1 h).2.2.1
    subst hno
    clear HY
    clear hb3 P2 Q2 L2 HB2
    go_wp2
    go_ret
    exact ⟨rfl,HB3.out⟩
  ·go_wp2_with fail
   refine (num_any (l:=[r.txn,r.prev,r.next]) (Blk.new W1 _ _) (by simp) false (by simpa using h2)).mono ?_
   rintro e w2 ⟨rfl,rfl⟩
   have hno:yes=false:=Bool.eq_false_iff.2 fun h=>h2 (HY.out.1 h).2.1
   subst hno
   clear HY
   clear hb2 P2 Q2 PP QQ LL HB L2
   go_wp2
   go_ret
   exact ⟨rfl,HB2.out⟩
 ·have hno:yes=false:=Bool.eq_false_iff.2 fun h=>h1 (HY.out.1 h).1
  subst hno
  clear HY
  go_wp2
  go_ret
  exact ⟨rfl,HB.out⟩
set_option maxRecDepth 100000 in
set_option maxHeartbeats 16000000 in
theorem refMay_3 {w:World} {v:Value} {r:Rc} (hv:IsRec w v r) (hs:r.before.size≤maxLen∧r.after.size≤maxLen) (hk:r.kind=3) (yes:Bool) (hy:yes=true↔May r) :
 Calls Tryz.prog 40 #[v] w fun e w'=>e=.returned (.bool yes)∧Below w.heap.size w w':=by
 obtain ⟨vt,vp,rfl,hl⟩:=hv
 rw [may34 (by rw [hk]; decide)] at hy
 have HY:=Lib.hid hy
 have one:=hl.one
 have N0:Blk ((w.alloc (.cells (recCells r vt vp) 46)).alloc (.cells #[.int .i64 0,.int .i64 0,.int .i64 0,.int .i64 0,.int .i64 0,.int .i64 0,.int .i64 0,.string ⟨#[]⟩,.string ⟨#[]⟩,.slice none 0 0,.slice none 0 0] 46)) (w.heap.size+1) 46 #[.int .i64 0,.int .i64 0,.int .i64 0,.int .i64 0,.int .i64 0,.int .i64 0,.int .i64 0,.string ⟨#[]⟩,.string ⟨#[]⟩,.slice none 0 0,.slice none 0 0]:=by
  have:=Blk.new (w.alloc (.cells (recCells r vt vp) 46)) 46 #[.int .i64 0,.int .i64 0,.int .i64 0,.int .i64 0,.int .i64 0,.int .i64 0,.int .i64 0,.string ⟨#[]⟩,.string ⟨#[]⟩,.slice none 0 0,.slice none 0 0]
  rwa [World.size_alloc] at this
 have P0:=(Blk.new w 46 (recCells r vt vp))
 have PA:=((Blk.new w 46 (recCells r vt vp)).alloc (.cells #[.int .i64 0,.int .i64 0,.int .i64 0,.int .i64 0,.int .i64 0,.int .i64 0,.int .i64 0,.string ⟨#[]⟩,.string ⟨#[]⟩,.slice none 0 0,.slice none 0 0] 46)).farRow (k:=w.heap.size+1) (by omega) (recCells r vt vp)
 have PO:=N0.setRow (recCells r vt vp)
 have hB:Below w.heap.size w (((w.alloc (.cells (recCells r vt vp) 46)).alloc (.cells #[.int .i64 0,.int .i64 0,.int .i64 0,.int .i64 0,.int .i64 0,.int .i64 0,.int .i64 0,.string ⟨#[]⟩,.string ⟨#[]⟩,.slice none 0 0,.slice none 0 0] 46)).setRow (w.heap.size+1) (recCells r vt vp)):=below_setRow (((Below.refl _ _).alloc (Nat.le_refl _) _).alloc (by simp) _) (by omega) _
 have LL:=Lib.hid (hl.keep hB)
 have HB:=Lib.hid hB
 have e0:(recCells r vt vp)[0]? = some (.int .i64 r.kind):=rfl
 have e1:(recCells r vt vp)[1]? = some (.int .i64 r.txn):=rfl
 have e2:(recCells r vt vp)[2]? = some (.int .i64 r.page):=rfl
 have e3:(recCells r vt vp)[3]? = some (.int .i64 r.off):=rfl
 have e4:(recCells r vt vp)[4]? = some (.int .i64 r.prev):=rfl
 have e5:(recCells r vt vp)[5]? = some (.int .i64 r.next):=rfl
 have e6:(recCells r vt vp)[6]? = some (.int .i64 r.beg):=rfl
 have e7:(recCells r vt vp)[7]? = some (.string r.before):=rfl
 have e8:(recCells r vt vp)[8]? = some (.string r.after):=rfl
 have e9:(recCells r vt vp)[9]? = some vt:=rfl
 have e10:(recCells r vt vp)[10]? = some vp:=rfl
 obtain ⟨z1,z2⟩:=hs
 clear hy hl hB
 have E1:=e1
 have E2:=e2
 have E3:=e3
 have E4:=e4
 have E5:=e5
 have E6:=e6
 have E7:=e7
 have E8:=e8
 have E9:=e9
 have E10:=e10
 have E0:(recCells r vt vp)[0]? = some (.int .i64 3):=by rw [← hk]; rfl
 have HK:=Lib.hid hk
 clear hk e0 e1 e2 e3 e4 e5 e6 e7 e8 e9 e10
 unfold recV
 go_enter Tryz.func40,Tryz.ntmps40
 go_upto_region 2 with (first
  | (refine wpList_load_row rfl 46 _ rfl w.heap.size rfl 46 _ (0,0) _ P0 Tryz.underlying46 rfl (by kernel_rfl) ?_)
  | (refine wpList_store_row rfl 46 _ _ rfl (w.heap.size+1) _ rfl rfl 46 _ N0 (by kernel_rfl) rfl one ?_))
 have PP:=Lib.hid PA
 have QQ:=Lib.hid PO
 clear P0 N0 one PA PO
 generalize (((w.alloc (.cells (recCells r vt vp) 46)).alloc (.cells #[.int .i64 0,.int .i64 0,.int .i64 0,.int .i64 0,.int .i64 0,.int .i64 0,.int .i64 0,.string ⟨#[]⟩,.string ⟨#[]⟩,.slice none 0 0,.slice none 0 0] 46)).setRow (w.heap.size+1) (recCells r vt vp))=W1 at *
 have c0:=(PP.out.cell 0).trans E0
 have c1:=(PP.out.cell 1).trans E1
 have c2:=(PP.out.cell 2).trans E2
 have c3:=(PP.out.cell 3).trans E3
 have c4:=(PP.out.cell 4).trans E4
 have c5:=(PP.out.cell 5).trans E5
 have c6:=(PP.out.cell 6).trans E6
 have c7:=(PP.out.cell 7).trans E7
 have c8:=(PP.out.cell 8).trans E8
 by_cases h1:1≤r.txn
 ·have c0:=(PP.out.cell 0).trans E0
  have c1:=(PP.out.cell 1).trans E1
  have c2:=(PP.out.cell 2).trans E2
  have c3:=(PP.out.cell 3).trans E3
  have c4:=(PP.out.cell 4).trans E4
  have c5:=(PP.out.cell 5).trans E5
  have c6:=(PP.out.cell 6).trans E6
  have c7:=(PP.out.cell 7).trans E7
  have c8:=(PP.out.cell 8).trans E8
  have hb2:Below W1.heap.size W1 (W1.alloc (.cells (intsV [r.txn,r.prev]) 3)):=(Below.refl _ _).alloc (Nat.le_refl _) _
  have P2:=PP.out.keep hb2 PP.out.lt
  have Q2:=QQ.out.keep hb2 QQ.out.lt
  have L2:=Lib.hid (LL.out.keep hb2)
  have HB2:=Lib.hid (HB.out.trans (hb2.mono HB.out.size))
  by_cases h2:allNum [r.txn,r.prev]=true
  ·go_wp2_with fail
   refine (num_any (l:=[r.txn,r.prev]) (Blk.new W1 _ _) (by simp) true h2.symm).mono ?_
   rintro e w2 ⟨rfl,rfl⟩
   have H2:=Lib.hid h2
   clear hb2 h2 PP QQ LL HB
   generalize (W1.alloc (.cells (intsV [r.txn,r.prev]) 3))=W2 at *
   clear c0 c1 c2 c3 c4 c5 c6 c7 c8
   have c0:=(P2.cell 0).trans E0
   have c1:=(P2.cell 1).trans E1
   have c2:=(P2.cell 2).trans E2
   have c3:=(P2.cell 3).trans E3
   have c4:=(P2.cell 4).trans E4
   have c5:=(P2.cell 5).trans E5
   have c6:=(P2.cell 6).trans E6
   have c7:=(P2.cell 7).trans E7
   have c8:=(P2.cell 8).trans E8
   by_cases h5:r=Rc.com r.kind r.txn r.prev
   ·have H5:=Lib.hid h5
    clear h5
    go_wp2_with (first
     | (refine wpList_load_rowG rfl 46 _ rfl w.heap.size rfl 46 _ (0,0) _ P2 Tryz.underlying46 rfl (by kernel_rfl) ?_)
     | (refine wpList_load_rowG rfl 46 _ rfl (w.heap.size+1) rfl 46 _ (0,0) _ Q2 Tryz.underlying46 rfl (by kernel_rfl) ?_))
    refine (refSame_any ⟨vt,vp,rfl,L2.out⟩ ⟨_,_,(by rw [HK.out]; rfl),Lists.nil _ (Rc.com r.kind r.txn r.prev) rfl rfl⟩ true (by rw [decide_eq_true H5.out])).mono ?_
    rintro e w9 ⟨rfl,hb9⟩
    have HB9:=Lib.hid (below2 HB2.out hb9)
    have hyes:yes=true:=HY.out.2 ⟨h1,H2.out,H5.out⟩
    subst hyes
    clear HY H5 hb9 P2 Q2 L2 HB2
    go_wp2
    go_ret
    exact ⟨rfl,HB9.out⟩
   ·have H5:=Lib.hid h5
    clear h5
    go_wp2_with (first
     | (refine wpList_load_rowG rfl 46 _ rfl w.heap.size rfl 46 _ (0,0) _ P2 Tryz.underlying46 rfl (by kernel_rfl) ?_)
     | (refine wpList_load_rowG rfl 46 _ rfl (w.heap.size+1) rfl 46 _ (0,0) _ Q2 Tryz.underlying46 rfl (by kernel_rfl) ?_))
    refine (refSame_any ⟨vt,vp,rfl,L2.out⟩ ⟨_,_,(by rw [HK.out]; rfl),Lists.nil _ (Rc.com r.kind r.txn r.prev) rfl rfl⟩ false (by rw [decide_eq_false H5.out])).mono ?_
    rintro e w9 ⟨rfl,hb9⟩
    have HB9:=Lib.hid (below2 HB2.out hb9)
    have hno:yes=false:=Bool.eq_false_iff.2 fun h=>H5.out (HY.out.1 h).2.2
    subst hno
    clear HY
    clear hb9 P2 Q2 L2 HB2
    go_wp2
    go_ret
    exact ⟨rfl,HB9.out⟩
  ·go_wp2_with fail
   refine (num_any (l:=[r.txn,r.prev]) (Blk.new W1 _ _) (by simp) false (by simpa using h2)).mono ?_
   rintro e w2 ⟨rfl,rfl⟩
   have hno:yes=false:=Bool.eq_false_iff.2 fun h=>h2 (HY.out.1 h).2.1
   subst hno
   clear HY
   clear hb2 P2 Q2 PP QQ LL HB L2
   go_wp2
   go_ret
   exact ⟨rfl,HB2.out⟩
 ·have hno:yes=false:=Bool.eq_false_iff.2 fun h=>h1 (HY.out.1 h).1
  subst hno
  clear HY
  go_wp2
  go_ret
  exact ⟨rfl,HB.out⟩
set_option maxRecDepth 100000 in
set_option maxHeartbeats 16000000 in
theorem refMay_4 {w:World} {v:Value} {r:Rc} (hv:IsRec w v r) (hs:r.before.size≤maxLen∧r.after.size≤maxLen) (hk:r.kind=4) (yes:Bool) (hy:yes=true↔May r) :
 Calls Tryz.prog 40 #[v] w fun e w'=>e=.returned (.bool yes)∧Below w.heap.size w w':=by
 obtain ⟨vt,vp,rfl,hl⟩:=hv
 rw [may34 (by rw [hk]; decide)] at hy
 have HY:=Lib.hid hy
 have one:=hl.one
 have N0:Blk ((w.alloc (.cells (recCells r vt vp) 46)).alloc (.cells #[.int .i64 0,.int .i64 0,.int .i64 0,.int .i64 0,.int .i64 0,.int .i64 0,.int .i64 0,.string ⟨#[]⟩,.string ⟨#[]⟩,.slice none 0 0,.slice none 0 0] 46)) (w.heap.size+1) 46 #[.int .i64 0,.int .i64 0,.int .i64 0,.int .i64 0,.int .i64 0,.int .i64 0,.int .i64 0,.string ⟨#[]⟩,.string ⟨#[]⟩,.slice none 0 0,.slice none 0 0]:=by
  have:=Blk.new (w.alloc (.cells (recCells r vt vp) 46)) 46 #[.int .i64 0,.int .i64 0,.int .i64 0,.int .i64 0,.int .i64 0,.int .i64 0,.int .i64 0,.string ⟨#[]⟩,.string ⟨#[]⟩,.slice none 0 0,.slice none 0 0]
  rwa [World.size_alloc] at this
 have P0:=(Blk.new w 46 (recCells r vt vp))
 have PA:=((Blk.new w 46 (recCells r vt vp)).alloc (.cells #[.int .i64 0,.int .i64 0,.int .i64 0,.int .i64 0,.int .i64 0,.int .i64 0,.int .i64 0,.string ⟨#[]⟩,.string ⟨#[]⟩,.slice none 0 0,.slice none 0 0] 46)).farRow (k:=w.heap.size+1) (by omega) (recCells r vt vp)
 have PO:=N0.setRow (recCells r vt vp)
 have hB:Below w.heap.size w (((w.alloc (.cells (recCells r vt vp) 46)).alloc (.cells #[.int .i64 0,.int .i64 0,.int .i64 0,.int .i64 0,.int .i64 0,.int .i64 0,.int .i64 0,.string ⟨#[]⟩,.string ⟨#[]⟩,.slice none 0 0,.slice none 0 0] 46)).setRow (w.heap.size+1) (recCells r vt vp)):=below_setRow (((Below.refl _ _).alloc (Nat.le_refl _) _).alloc (by simp) _) (by omega) _
 have LL:=Lib.hid (hl.keep hB)
 have HB:=Lib.hid hB
 have e0:(recCells r vt vp)[0]? = some (.int .i64 r.kind):=rfl
 have e1:(recCells r vt vp)[1]? = some (.int .i64 r.txn):=rfl
 have e2:(recCells r vt vp)[2]? = some (.int .i64 r.page):=rfl
 have e3:(recCells r vt vp)[3]? = some (.int .i64 r.off):=rfl
 have e4:(recCells r vt vp)[4]? = some (.int .i64 r.prev):=rfl
 have e5:(recCells r vt vp)[5]? = some (.int .i64 r.next):=rfl
 have e6:(recCells r vt vp)[6]? = some (.int .i64 r.beg):=rfl
 have e7:(recCells r vt vp)[7]? = some (.string r.before):=rfl
 have e8:(recCells r vt vp)[8]? = some (.string r.after):=rfl
 have e9:(recCells r vt vp)[9]? = some vt:=rfl
 have e10:(recCells r vt vp)[10]? = some vp:=rfl
 obtain ⟨z1,z2⟩:=hs
 clear hy hl hB
 have E1:=e1
 have E2:=e2
 have E3:=e3
 have E4:=e4
 have E5:=e5
 have E6:=e6
 have E7:=e7
 have E8:=e8
 have E9:=e9
 have E10:=e10
 have E0:(recCells r vt vp)[0]? = some (.int .i64 4):=by rw [← hk]; rfl
 have HK:=Lib.hid hk
 clear hk e0 e1 e2 e3 e4 e5 e6 e7 e8 e9 e10
 unfold recV
 go_enter Tryz.func40,Tryz.ntmps40
 go_upto_region 2 with (first
  | (refine wpList_load_row rfl 46 _ rfl w.heap.size rfl 46 _ (0,0) _ P0 Tryz.underlying46 rfl (by kernel_rfl) ?_)
  | (refine wpList_store_row rfl 46 _ _ rfl (w.heap.size+1) _ rfl rfl 46 _ N0 (by kernel_rfl) rfl one ?_))
 have PP:=Lib.hid PA
 have QQ:=Lib.hid PO
 clear P0 N0 one PA PO
 generalize (((w.alloc (.cells (recCells r vt vp) 46)).alloc (.cells #[.int .i64 0,.int .i64 0,.int .i64 0,.int .i64 0,.int .i64 0,.int .i64 0,.int .i64 0,.string ⟨#[]⟩,.string ⟨#[]⟩,.slice none 0 0,.slice none 0 0] 46)).setRow (w.heap.size+1) (recCells r vt vp))=W1 at *
 have c0:=(PP.out.cell 0).trans E0
 have c1:=(PP.out.cell 1).trans E1
 have c2:=(PP.out.cell 2).trans E2
 have c3:=(PP.out.cell 3).trans E3
 have c4:=(PP.out.cell 4).trans E4
 have c5:=(PP.out.cell 5).trans E5
 have c6:=(PP.out.cell 6).trans E6
 have c7:=(PP.out.cell 7).trans E7
 have c8:=(PP.out.cell 8).trans E8
 by_cases h1:1≤r.txn
 ·have c0:=(PP.out.cell 0).trans E0
  have c1:=(PP.out.cell 1).trans E1
  have c2:=(PP.out.cell 2).trans E2
  have c3:=(PP.out.cell 3).trans E3
  have c4:=(PP.out.cell 4).trans E4
  have c5:=(PP.out.cell 5).trans E5
  have c6:=(PP.out.cell 6).trans E6
  have c7:=(PP.out.cell 7).trans E7
  have c8:=(PP.out.cell 8).trans E8
  have hb2:Below W1.heap.size W1 (W1.alloc (.cells (intsV [r.txn,r.prev]) 3)):=(Below.refl _ _).alloc (Nat.le_refl _) _
  have P2:=PP.out.keep hb2 PP.out.lt
  have Q2:=QQ.out.keep hb2 QQ.out.lt
  have L2:=Lib.hid (LL.out.keep hb2)
  have HB2:=Lib.hid (HB.out.trans (hb2.mono HB.out.size))
  by_cases h2:allNum [r.txn,r.prev]=true
  ·go_wp2_with fail
   refine (num_any (l:=[r.txn,r.prev]) (Blk.new W1 _ _) (by simp) true h2.symm).mono ?_
   rintro e w2 ⟨rfl,rfl⟩
   have H2:=Lib.hid h2
   clear hb2 h2 PP QQ LL HB
   generalize (W1.alloc (.cells (intsV [r.txn,r.prev]) 3))=W2 at *
   clear c0 c1 c2 c3 c4 c5 c6 c7 c8
   have c0:=(P2.cell 0).trans E0
   have c1:=(P2.cell 1).trans E1
   have c2:=(P2.cell 2).trans E2
   have c3:=(P2.cell 3).trans E3
   have c4:=(P2.cell 4).trans E4
   have c5:=(P2.cell 5).trans E5
   have c6:=(P2.cell 6).trans E6
   have c7:=(P2.cell 7).trans E7
   have c8:=(P2.cell 8).trans E8
   by_cases h5:r=Rc.com r.kind r.txn r.prev
   ·have H5:=Lib.hid h5
    clear h5
    go_wp2_with (first
     | (refine wpList_load_rowG rfl 46 _ rfl w.heap.size rfl 46 _ (0,0) _ P2 Tryz.underlying46 rfl (by kernel_rfl) ?_)
     | (refine wpList_load_rowG rfl 46 _ rfl (w.heap.size+1) rfl 46 _ (0,0) _ Q2 Tryz.underlying46 rfl (by kernel_rfl) ?_))
    refine (refSame_any ⟨vt,vp,rfl,L2.out⟩ ⟨_,_,(by rw [HK.out]; rfl),Lists.nil _ (Rc.com r.kind r.txn r.prev) rfl rfl⟩ true (by rw [decide_eq_true H5.out])).mono ?_
    rintro e w9 ⟨rfl,hb9⟩
    have HB9:=Lib.hid (below2 HB2.out hb9)
    have hyes:yes=true:=HY.out.2 ⟨h1,H2.out,H5.out⟩
    subst hyes
    clear HY H5 hb9 P2 Q2 L2 HB2
    go_wp2
    go_ret
    exact ⟨rfl,HB9.out⟩
   ·have H5:=Lib.hid h5
    clear h5
    go_wp2_with (first
     | (refine wpList_load_rowG rfl 46 _ rfl w.heap.size rfl 46 _ (0,0) _ P2 Tryz.underlying46 rfl (by kernel_rfl) ?_)
     | (refine wpList_load_rowG rfl 46 _ rfl (w.heap.size+1) rfl 46 _ (0,0) _ Q2 Tryz.underlying46 rfl (by kernel_rfl) ?_))
    refine (refSame_any ⟨vt,vp,rfl,L2.out⟩ ⟨_,_,(by rw [HK.out]; rfl),Lists.nil _ (Rc.com r.kind r.txn r.prev) rfl rfl⟩ false (by rw [decide_eq_false H5.out])).mono ?_
    rintro e w9 ⟨rfl,hb9⟩
    have HB9:=Lib.hid (below2 HB2.out hb9)
    have hno:yes=false:=Bool.eq_false_iff.2 fun h=>H5.out (HY.out.1 h).2.2
    subst hno
    clear HY
    clear hb9 P2 Q2 L2 HB2
    go_wp2
    go_ret
    exact ⟨rfl,HB9.out⟩
  ·go_wp2_with fail
   refine (num_any (l:=[r.txn,r.prev]) (Blk.new W1 _ _) (by simp) false (by simpa using h2)).mono ?_
   rintro e w2 ⟨rfl,rfl⟩
   have hno:yes=false:=Bool.eq_false_iff.2 fun h=>h2 (HY.out.1 h).2.1
   subst hno
   clear HY
   clear hb2 P2 Q2 PP QQ LL HB L2
   go_wp2
   go_ret
   exact ⟨rfl,HB2.out⟩
 ·have hno:yes=false:=Bool.eq_false_iff.2 fun h=>h1 (HY.out.1 h).1
  subst hno
  clear HY
  go_wp2
  go_ret
  exact ⟨rfl,HB.out⟩
set_option maxRecDepth 100000 in
set_option maxHeartbeats 16000000 in
theorem refMay_5 {w:World} {v:Value} {r:Rc} (hv:IsRec w v r) (hs:r.before.size≤maxLen∧r.after.size≤maxLen) (hk:r.kind=5) (yes:Bool) (hy:yes=true↔May r) :
 Calls Tryz.prog 40 #[v] w fun e w'=>e=.returned (.bool yes)∧Below w.heap.size w w':=by
 obtain ⟨vt,vp,rfl,hl⟩:=hv
 rw [may5 hk] at hy
 have HY:=Lib.hid hy
 have one:=hl.one
 have N0:Blk ((w.alloc (.cells (recCells r vt vp) 46)).alloc (.cells #[.int .i64 0,.int .i64 0,.int .i64 0,.int .i64 0,.int .i64 0,.int .i64 0,.int .i64 0,.string ⟨#[]⟩,.string ⟨#[]⟩,.slice none 0 0,.slice none 0 0] 46)) (w.heap.size+1) 46 #[.int .i64 0,.int .i64 0,.int .i64 0,.int .i64 0,.int .i64 0,.int .i64 0,.int .i64 0,.string ⟨#[]⟩,.string ⟨#[]⟩,.slice none 0 0,.slice none 0 0]:=by
  have:=Blk.new (w.alloc (.cells (recCells r vt vp) 46)) 46 #[.int .i64 0,.int .i64 0,.int .i64 0,.int .i64 0,.int .i64 0,.int .i64 0,.int .i64 0,.string ⟨#[]⟩,.string ⟨#[]⟩,.slice none 0 0,.slice none 0 0]
  rwa [World.size_alloc] at this
 have P0:=(Blk.new w 46 (recCells r vt vp))
 have PA:=((Blk.new w 46 (recCells r vt vp)).alloc (.cells #[.int .i64 0,.int .i64 0,.int .i64 0,.int .i64 0,.int .i64 0,.int .i64 0,.int .i64 0,.string ⟨#[]⟩,.string ⟨#[]⟩,.slice none 0 0,.slice none 0 0] 46)).farRow (k:=w.heap.size+1) (by omega) (recCells r vt vp)
 have PO:=N0.setRow (recCells r vt vp)
 have hB:Below w.heap.size w (((w.alloc (.cells (recCells r vt vp) 46)).alloc (.cells #[.int .i64 0,.int .i64 0,.int .i64 0,.int .i64 0,.int .i64 0,.int .i64 0,.int .i64 0,.string ⟨#[]⟩,.string ⟨#[]⟩,.slice none 0 0,.slice none 0 0] 46)).setRow (w.heap.size+1) (recCells r vt vp)):=below_setRow (((Below.refl _ _).alloc (Nat.le_refl _) _).alloc (by simp) _) (by omega) _
 have LL:=Lib.hid (hl.keep hB)
 have HB:=Lib.hid hB
 have e0:(recCells r vt vp)[0]? = some (.int .i64 r.kind):=rfl
 have e1:(recCells r vt vp)[1]? = some (.int .i64 r.txn):=rfl
 have e2:(recCells r vt vp)[2]? = some (.int .i64 r.page):=rfl
 have e3:(recCells r vt vp)[3]? = some (.int .i64 r.off):=rfl
 have e4:(recCells r vt vp)[4]? = some (.int .i64 r.prev):=rfl
 have e5:(recCells r vt vp)[5]? = some (.int .i64 r.next):=rfl
 have e6:(recCells r vt vp)[6]? = some (.int .i64 r.beg):=rfl
 have e7:(recCells r vt vp)[7]? = some (.string r.before):=rfl
 have e8:(recCells r vt vp)[8]? = some (.string r.after):=rfl
 have e9:(recCells r vt vp)[9]? = some vt:=rfl
 have e10:(recCells r vt vp)[10]? = some vp:=rfl
 obtain ⟨z1,z2⟩:=hs
 clear hy hl hB
 have E1:=e1
 have E2:=e2
 have E3:=e3
 have E4:=e4
 have E5:=e5
 have E6:=e6
 have E7:=e7
 have E8:=e8
 have E9:=e9
 have E10:=e10
 have E0:(recCells r vt vp)[0]? = some (.int .i64 5):=by rw [← hk]; rfl
 have HK:=Lib.hid hk
 clear hk e0 e1 e2 e3 e4 e5 e6 e7 e8 e9 e10
 unfold recV
 go_enter Tryz.func40,Tryz.ntmps40
 go_upto_region 2 with (first
  | (refine wpList_load_row rfl 46 _ rfl w.heap.size rfl 46 _ (0,0) _ P0 Tryz.underlying46 rfl (by kernel_rfl) ?_)
  | (refine wpList_store_row rfl 46 _ _ rfl (w.heap.size+1) _ rfl rfl 46 _ N0 (by kernel_rfl) rfl one ?_))
 have PP:=Lib.hid PA
 have QQ:=Lib.hid PO
 clear P0 N0 one PA PO
 generalize (((w.alloc (.cells (recCells r vt vp) 46)).alloc (.cells #[.int .i64 0,.int .i64 0,.int .i64 0,.int .i64 0,.int .i64 0,.int .i64 0,.int .i64 0,.string ⟨#[]⟩,.string ⟨#[]⟩,.slice none 0 0,.slice none 0 0] 46)).setRow (w.heap.size+1) (recCells r vt vp))=W1 at *
 have c0:=(PP.out.cell 0).trans E0
 have c1:=(PP.out.cell 1).trans E1
 have c2:=(PP.out.cell 2).trans E2
 have c3:=(PP.out.cell 3).trans E3
 have c4:=(PP.out.cell 4).trans E4
 have c5:=(PP.out.cell 5).trans E5
 have c6:=(PP.out.cell 6).trans E6
 have c7:=(PP.out.cell 7).trans E7
 have c8:=(PP.out.cell 8).trans E8
 have P2:=PP.out
 have Q2:=QQ.out
 have L2:=LL
 have HB2:=HB
 clear PP QQ LL HB
 by_cases h5:r=Rc.begin5
 ·have H5:=Lib.hid h5
  clear h5
  go_wp2_with (first
   | (refine wpList_load_rowG rfl 46 _ rfl w.heap.size rfl 46 _ (0,0) _ P2 Tryz.underlying46 rfl (by kernel_rfl) ?_)
   | (refine wpList_load_rowG rfl 46 _ rfl (w.heap.size+1) rfl 46 _ (0,0) _ Q2 Tryz.underlying46 rfl (by kernel_rfl) ?_))
  refine (refSame_any ⟨vt,vp,rfl,L2.out⟩ ⟨_,_,rfl,Lists.nil _ Rc.begin5 rfl rfl⟩ true (by rw [decide_eq_true H5.out])).mono ?_
  rintro e w9 ⟨rfl,hb9⟩
  have HB9:=Lib.hid (below2 HB2.out hb9)
  have hyes:yes=true:=HY.out.2 H5.out
  subst hyes
  clear HY H5 hb9 P2 Q2 L2 HB2
  go_wp2
  go_ret
  exact ⟨rfl,HB9.out⟩
 ·have H5:=Lib.hid h5
  clear h5
  go_wp2_with (first
   | (refine wpList_load_rowG rfl 46 _ rfl w.heap.size rfl 46 _ (0,0) _ P2 Tryz.underlying46 rfl (by kernel_rfl) ?_)
   | (refine wpList_load_rowG rfl 46 _ rfl (w.heap.size+1) rfl 46 _ (0,0) _ Q2 Tryz.underlying46 rfl (by kernel_rfl) ?_))
  refine (refSame_any ⟨vt,vp,rfl,L2.out⟩ ⟨_,_,rfl,Lists.nil _ Rc.begin5 rfl rfl⟩ false (by rw [decide_eq_false H5.out])).mono ?_
  rintro e w9 ⟨rfl,hb9⟩
  have HB9:=Lib.hid (below2 HB2.out hb9)
  have hno:yes=false:=Bool.eq_false_iff.2 fun h=>H5.out (HY.out.1 h)
  subst hno
  clear HY
  clear hb9 P2 Q2 L2 HB2
  go_wp2
  go_ret
  exact ⟨rfl,HB9.out⟩
set_option maxRecDepth 100000 in
set_option maxHeartbeats 16000000 in
theorem refMay_o {w:World} {v:Value} {r:Rc} (hv:IsRec w v r) (hs:r.before.size≤maxLen∧r.after.size≤maxLen) (hk1:r.kind≠1) (hk2:r.kind≠2) (hk3:r.kind≠3) (hk4:r.kind≠4) (hk5:r.kind≠5) (hk6:r.kind≠6) (yes:Bool) (hy:yes=true↔May r) :
 Calls Tryz.prog 40 #[v] w fun e w'=>e=.returned (.bool yes)∧Below w.heap.size w w':=by
 obtain ⟨vt,vp,rfl,hl⟩:=hv
 have hno:yes=false:=Bool.eq_false_iff.2 fun h=>by rcases may_kind (hy.1 h) with h | h | h | h | h | h <;> contradiction
 subst hno
 have HY:=Lib.hid hy
 have one:=hl.one
 have N0:Blk ((w.alloc (.cells (recCells r vt vp) 46)).alloc (.cells #[.int .i64 0,.int .i64 0,.int .i64 0,.int .i64 0,.int .i64 0,.int .i64 0,.int .i64 0,.string ⟨#[]⟩,.string ⟨#[]⟩,.slice none 0 0,.slice none 0 0] 46)) (w.heap.size+1) 46 #[.int .i64 0,.int .i64 0,.int .i64 0,.int .i64 0,.int .i64 0,.int .i64 0,.int .i64 0,.string ⟨#[]⟩,.string ⟨#[]⟩,.slice none 0 0,.slice none 0 0]:=by
  have:=Blk.new (w.alloc (.cells (recCells r vt vp) 46)) 46 #[.int .i64 0,.int .i64 0,.int .i64 0,.int .i64 0,.int .i64 0,.int .i64 0,.int .i64 0,.string ⟨#[]⟩,.string ⟨#[]⟩,.slice none 0 0,.slice none 0 0]
  rwa [World.size_alloc] at this
 have P0:=(Blk.new w 46 (recCells r vt vp))
 have PA:=((Blk.new w 46 (recCells r vt vp)).alloc (.cells #[.int .i64 0,.int .i64 0,.int .i64 0,.int .i64 0,.int .i64 0,.int .i64 0,.int .i64 0,.string ⟨#[]⟩,.string ⟨#[]⟩,.slice none 0 0,.slice none 0 0] 46)).farRow (k:=w.heap.size+1) (by omega) (recCells r vt vp)
 have PO:=N0.setRow (recCells r vt vp)
 have hB:Below w.heap.size w (((w.alloc (.cells (recCells r vt vp) 46)).alloc (.cells #[.int .i64 0,.int .i64 0,.int .i64 0,.int .i64 0,.int .i64 0,.int .i64 0,.int .i64 0,.string ⟨#[]⟩,.string ⟨#[]⟩,.slice none 0 0,.slice none 0 0] 46)).setRow (w.heap.size+1) (recCells r vt vp)):=below_setRow (((Below.refl _ _).alloc (Nat.le_refl _) _).alloc (by simp) _) (by omega) _
 have LL:=Lib.hid (hl.keep hB)
 have HB:=Lib.hid hB
 have e0:(recCells r vt vp)[0]? = some (.int .i64 r.kind):=rfl
 have e1:(recCells r vt vp)[1]? = some (.int .i64 r.txn):=rfl
 have e2:(recCells r vt vp)[2]? = some (.int .i64 r.page):=rfl
 have e3:(recCells r vt vp)[3]? = some (.int .i64 r.off):=rfl
 have e4:(recCells r vt vp)[4]? = some (.int .i64 r.prev):=rfl
 have e5:(recCells r vt vp)[5]? = some (.int .i64 r.next):=rfl
 have e6:(recCells r vt vp)[6]? = some (.int .i64 r.beg):=rfl
 have e7:(recCells r vt vp)[7]? = some (.string r.before):=rfl
 have e8:(recCells r vt vp)[8]? = some (.string r.after):=rfl
 have e9:(recCells r vt vp)[9]? = some vt:=rfl
 have e10:(recCells r vt vp)[10]? = some vp:=rfl
 obtain ⟨z1,z2⟩:=hs
 clear hy hl hB
 have E1:=e1
 have E2:=e2
 have E3:=e3
 have E4:=e4
 have E5:=e5
 have E6:=e6
 have E7:=e7
 have E8:=e8
 have E9:=e9
 have E10:=e10
 have E0:(recCells r vt vp)[0]? = some (.int .i64 r.kind):=rfl
 clear e0 e1 e2 e3 e4 e5 e6 e7 e8 e9 e10
 unfold recV
 go_enter Tryz.func40,Tryz.ntmps40
 go_upto_region 2 with (first
  | (refine wpList_load_row rfl 46 _ rfl w.heap.size rfl 46 _ (0,0) _ P0 Tryz.underlying46 rfl (by kernel_rfl) ?_)
  | (refine wpList_store_row rfl 46 _ _ rfl (w.heap.size+1) _ rfl rfl 46 _ N0 (by kernel_rfl) rfl one ?_))
 have PP:=Lib.hid PA
 have QQ:=Lib.hid PO
 clear P0 N0 one PA PO
 generalize (((w.alloc (.cells (recCells r vt vp) 46)).alloc (.cells #[.int .i64 0,.int .i64 0,.int .i64 0,.int .i64 0,.int .i64 0,.int .i64 0,.int .i64 0,.string ⟨#[]⟩,.string ⟨#[]⟩,.slice none 0 0,.slice none 0 0] 46)).setRow (w.heap.size+1) (recCells r vt vp))=W1 at *
 have b1:(r.kind == 1)=false:=by rw [beq_eq_false_iff_ne]; exact hk1
 have b2:(r.kind == 2)=false:=by rw [beq_eq_false_iff_ne]; exact hk2
 have b3:(r.kind == 3)=false:=by rw [beq_eq_false_iff_ne]; exact hk3
 have b4:(r.kind == 4)=false:=by rw [beq_eq_false_iff_ne]; exact hk4
 have b5:(r.kind == 5)=false:=by rw [beq_eq_false_iff_ne]; exact hk5
 have b6:(r.kind == 6)=false:=by rw [beq_eq_false_iff_ne]; exact hk6
 have c0:=(PP.out.cell 0).trans E0
 clear HY hk1 hk2 hk3 hk4 hk5 hk6
 go_wp2
 go_ret
 exact ⟨rfl,HB.out⟩
end Go.Proofs.YthkbcfhjmnpggaaGreat
