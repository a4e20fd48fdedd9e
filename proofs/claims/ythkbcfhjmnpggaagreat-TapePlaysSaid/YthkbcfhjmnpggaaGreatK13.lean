/- Texts that belong together, joined: RecH, RecJ, RecL, RecShort. -/
import Derived.Test.YthkbcfhjmnpggaaGreatK05
import Derived.Test.YthkbcfhjmnpggaaGreatK06
import Derived.Test.YthkbcfhjmnpggaaGreatK12
namespace Go.Proofs.YthkbcfhjmnpggaaGreat
open Go.RowKit
theorem Buf.conv {w0 w:World} {v:Value} {l:List UInt8} (h:Buf w0 w v l) (hl:l≠[]):∃ g cap,v=.slice (some ⟨g,0,none⟩) l.length cap∧(convert 47 9 v).run Tryz.prog w=.ok (.string ⟨l.toArray⟩) w:=by
 obtain ⟨g,cap,rfl,_,_⟩:=own_form h.own (List.length_pos_iff.2 hl)
 exact ⟨g,cap,rfl,conv_owned l (by rw [show (bytesV l).toList=bytesL l from by simp [bytesV,bytesL]]; exact h.own) _ _ Tryz.underlying47 Tryz.underlying5 Tryz.underlying9⟩
theorem Buf.first (w0:World) (n:Int):Buf w0 (w0.alloc (.cells #[.int .u8 (n % 256)] 5)) (.slice (some ⟨w0.heap.size,0,none⟩) 1 1) [lowI n]:=by
 refine ⟨?_,(Below.refl _ _).alloc (Nat.le_refl _) _⟩
 refine ⟨rfl,.inr ⟨w0.heap.size,1,#[.int .u8 (n % 256)],rfl,Nat.le_refl _,heap_alloc_new w0 _,Nat.le_refl _,by decide,rfl,?_⟩⟩
 exact beLow_cells n
theorem three_cells (a b c:Int):[Value.int .u8 (a % 256),.int .u8 (b % 256),.int .u8 (c % 256)]=bytesL [lowI a,lowI b,lowI c]:=by
 have h1:=beLow_cells a
 have h2:=beLow_cells b
 have h3:=beLow_cells c
 rw [show [lowI a,lowI b,lowI c] = [lowI a]++[lowI b]++[lowI c] from rfl,bytesL_app,bytesL_app,← h1,← h2,← h3]
 rfl
theorem strCells_bytes (s:ByteArray):Lib.strCells s=bytesL s.data.toList:=rfl
section
variable {w:World} {vt vp:Value}
set_option maxRecDepth 100000 in
set_option maxHeartbeats 8000000 in
theorem lay_com {k t p pg o x bg:Int} {bf af:ByteArray} {ts:List Row3} {ps:List Row2} (k4:k≤4) (k1:k≠1) (k2:k≠2) (hl:Lists w ⟨k,t,pg,o,p,x,bg,bf,af,ts,ps⟩ vt vp) (hf:Fit ⟨k,t,pg,o,p,x,bg,bf,af,ts,ps⟩) (L:List UInt8) (hL:L = [lowI k]++beI t++beI p) :
 Calls Tryz.prog 67 #[recV ⟨k,t,pg,o,p,x,bg,bf,af,ts,ps⟩ vt vp] w fun e w'=>e=.returned (.string ⟨L.toArray⟩)∧Below w.heap.size w w':=by
 obtain ⟨i0,hi,he⟩:=Option.map_eq_some_iff.1 info_byte
 simp only [Prod.mk.injEq] at he
 obtain ⟨hz0,hz1,hz2⟩:=he
 have LL:=Lib.hid hL
 have hne:L≠[]:=by rw [hL]; simp
 obtain ⟨f1,f2,f3,f4⟩:=hf
 simp only at f1 f2 f3 f4
 have hb0:Below w.heap.size w (w.alloc (.cells (recCells ⟨k,t,pg,o,p,x,bg,bf,af,ts,ps⟩ vt vp) 46)):=(Below.refl _ _).alloc (Nat.le_refl _) _
 have B0:=Lib.hid (Blk.new w 46 (recCells ⟨k,t,pg,o,p,x,bg,bf,af,ts,ps⟩ vt vp))
 have HL:=Lib.hid (hl.keep hb0)
 have HB:=Lib.hid hb0
 have H0:=Lib.hid (Buf.first (w.alloc (.cells (recCells ⟨k,t,pg,o,p,x,bg,bf,af,ts,ps⟩ vt vp) 46)) k)
 rw [World.size_alloc] at H0
 clear hL hl hb0
 unfold recV recCells
 go_enter Tryz.func67,Tryz.ntmps67
 have e1:(k == 1)=false:=by rw [beq_eq_false_iff_ne]; exact k1
 have e2:(k == 2)=false:=by rw [beq_eq_false_iff_ne]; exact k2
 have e6:(k == 6)=false:=by rw [beq_eq_false_iff_ne]; omega
 go_wp2_with fail
 refine (appendNumber_any H0.out (by first | omega | (simp; done)) t).mono ?_
 rintro e w1 ⟨v1,rfl,hb,_⟩
 have hl1:([lowI k]++beI t).length≤5:=by rw [List.length_append,beI_len]; first | omega | exact Nat.le_refl _
 have H1:=Lib.hid hb
 clear hb H0 
 generalize hq:[lowI k]++beI t=l1 at *
 have Q1:=Lib.hid hq
 clear hq
 have bx:=B0.out.keep H1.out.below B0.out.lt
 have c4:=bx.cell 4
 simp [recCells] at c4
 clear bx
 go_wp2_with fail
 refine (appendNumber_any H1.out (by first | omega | (simp; done)) p).mono ?_
 rintro e w2 ⟨v2,rfl,hb,_⟩
 have hl2:(l1++beI p).length≤9:=by rw [List.length_append,beI_len]; first | omega | exact Nat.le_refl _
 have H2:=Lib.hid hb
 clear hb H1 c4
 generalize hq:l1++beI p=l2 at *
 have Q2:=Lib.hid hq
 clear hq
 have bx:=B0.out.keep H2.out.below B0.out.lt
 have c0:=bx.cell 0
 simp [recCells] at c0
 clear bx
 have hfin:Buf (w.alloc (.cells (recCells ⟨k,t,pg,o,p,x,bg,bf,af,ts,ps⟩ vt vp) 46)) w2 v2 L:=by rw [LL.out]; exact H2.out
 obtain ⟨gg,cc,hv,hcv⟩:=hfin.conv hne
 subst hv
 have LB:=Lib.hid (HB.out.trans (H2.out.below.mono HB.out.size))
 clear H2 hfin 
 go_wp2
 go_ret
 exact ⟨rfl,LB.out⟩
set_option maxRecDepth 100000 in
set_option maxHeartbeats 8000000 in
theorem lay_none {k t p pg o x bg:Int} {bf af:ByteArray} {ts:List Row3} {ps:List Row2} (k4:4 < k) (k6:k≠6) (k1:k≠1) (k2:k≠2) (hl:Lists w ⟨k,t,pg,o,p,x,bg,bf,af,ts,ps⟩ vt vp) (hf:Fit ⟨k,t,pg,o,p,x,bg,bf,af,ts,ps⟩) (L:List UInt8) (hL:L = [lowI k]) :
 Calls Tryz.prog 67 #[recV ⟨k,t,pg,o,p,x,bg,bf,af,ts,ps⟩ vt vp] w fun e w'=>e=.returned (.string ⟨L.toArray⟩)∧Below w.heap.size w w':=by
 obtain ⟨i0,hi,he⟩:=Option.map_eq_some_iff.1 info_byte
 simp only [Prod.mk.injEq] at he
 obtain ⟨hz0,hz1,hz2⟩:=he
 have LL:=Lib.hid hL
 have hne:L≠[]:=by rw [hL]; simp
 obtain ⟨f1,f2,f3,f4⟩:=hf
 simp only at f1 f2 f3 f4
 have hb0:Below w.heap.size w (w.alloc (.cells (recCells ⟨k,t,pg,o,p,x,bg,bf,af,ts,ps⟩ vt vp) 46)):=(Below.refl _ _).alloc (Nat.le_refl _) _
 have B0:=Lib.hid (Blk.new w 46 (recCells ⟨k,t,pg,o,p,x,bg,bf,af,ts,ps⟩ vt vp))
 have HL:=Lib.hid (hl.keep hb0)
 have HB:=Lib.hid hb0
 have H0:=Lib.hid (Buf.first (w.alloc (.cells (recCells ⟨k,t,pg,o,p,x,bg,bf,af,ts,ps⟩ vt vp) 46)) k)
 rw [World.size_alloc] at H0
 clear hL hl hb0
 unfold recV recCells
 go_enter Tryz.func67,Tryz.ntmps67
 have e1:(k == 1)=false:=by rw [beq_eq_false_iff_ne]; exact k1
 have e2:(k == 2)=false:=by rw [beq_eq_false_iff_ne]; exact k2
 have e6:(k == 6)=false:=by rw [beq_eq_false_iff_ne]; exact k6
 have hfin:=H0.out
 rw [← LL.out] at hfin
 obtain ⟨gg,cc,hv,hcv⟩:=hfin.conv hne
 simp only [Value.slice.injEq,Option.some.injEq,Addr.mk.injEq,and_true] at hv
 obtain ⟨rfl,h1,rfl⟩:=hv
 clear h1
 unfold recCells at hcv
 have LB:=Lib.hid (HB.out.trans (H0.out.below.mono HB.out.size))
 have k4':¬ k≤4:=by omega
 clear H0 hfin
 go_wp2
 go_ret
 exact ⟨rfl,LB.out⟩
set_option maxRecDepth 100000 in
set_option maxHeartbeats 8000000 in
theorem lay_tab {k t p pg o x bg:Int} {bf af:ByteArray} {ts:List Row3} {ps:List Row2} (k6:k=6) (hl:Lists w ⟨k,t,pg,o,p,x,bg,bf,af,ts,ps⟩ vt vp) (hf:Fit ⟨k,t,pg,o,p,x,bg,bf,af,ts,ps⟩) (L:List UInt8) (hL:L = [lowI k]++encTab ⟨k,t,pg,o,p,x,bg,bf,af,ts,ps⟩) :
 Calls Tryz.prog 67 #[recV ⟨k,t,pg,o,p,x,bg,bf,af,ts,ps⟩ vt vp] w fun e w'=>e=.returned (.string ⟨L.toArray⟩)∧Below w.heap.size w w':=by
 subst k6
 obtain ⟨i0,hi,he⟩:=Option.map_eq_some_iff.1 info_byte
 simp only [Prod.mk.injEq] at he
 obtain ⟨hz0,hz1,hz2⟩:=he
 have LL:=Lib.hid hL
 have hne:L≠[]:=by rw [hL]; simp
 obtain ⟨f1,f2,f3,f4⟩:=hf
 simp only at f1 f2 f3 f4
 have hb0:Below w.heap.size w (w.alloc (.cells (recCells ⟨6,t,pg,o,p,x,bg,bf,af,ts,ps⟩ vt vp) 46)):=(Below.refl _ _).alloc (Nat.le_refl _) _
 have B0:=Lib.hid (Blk.new w 46 (recCells ⟨6,t,pg,o,p,x,bg,bf,af,ts,ps⟩ vt vp))
 have HL:=Lib.hid (hl.keep hb0)
 have HB:=Lib.hid hb0
 have H0:=Lib.hid (Buf.first (w.alloc (.cells (recCells ⟨6,t,pg,o,p,x,bg,bf,af,ts,ps⟩ vt vp) 46)) 6)
 rw [World.size_alloc] at H0
 clear hL hl hb0
 unfold recV recCells
 go_enter Tryz.func67,Tryz.ntmps67
 go_wp2_with fail
 refine (appendTables_any H0.out (by simp) HL.out f3 f4).mono ?_
 rintro e w1 ⟨v1,rfl,hb⟩
 have H1:=Lib.hid hb
 clear hb H0
 have hfin:Buf (w.alloc (.cells (recCells ⟨6,t,pg,o,p,x,bg,bf,af,ts,ps⟩ vt vp) 46)) w1 v1 L:=by rw [LL.out]; exact H1.out
 obtain ⟨gg,cc,hv,hcv⟩:=hfin.conv hne
 subst hv
 have LB:=Lib.hid (HB.out.trans (H1.out.below.mono HB.out.size))
 clear H1 hfin 
 go_wp2
 go_ret
 exact ⟨rfl,LB.out⟩
set_option maxRecDepth 100000 in
set_option maxHeartbeats 8000000 in
theorem lay_upd {k t p pg o x bg:Int} {bf af:ByteArray} {ts:List Row3} {ps:List Row2} (k1:k=1) (hl:Lists w ⟨k,t,pg,o,p,x,bg,bf,af,ts,ps⟩ vt vp) (hf:Fit ⟨k,t,pg,o,p,x,bg,bf,af,ts,ps⟩) (L:List UInt8) (hL:L = [lowI k]++beI t++beI p++[lowI pg,lowI o,lowI af.size]++bf.data.toList++af.data.toList) :
 Calls Tryz.prog 67 #[recV ⟨k,t,pg,o,p,x,bg,bf,af,ts,ps⟩ vt vp] w fun e w'=>e=.returned (.string ⟨L.toArray⟩)∧Below w.heap.size w w':=by
 subst k1
 obtain ⟨i0,hi,he⟩:=Option.map_eq_some_iff.1 info_byte
 simp only [Prod.mk.injEq] at he
 obtain ⟨hz0,hz1,hz2⟩:=he
 have LL:=Lib.hid hL
 have hne:L≠[]:=by rw [hL]; simp
 obtain ⟨f1,f2,f3,f4⟩:=hf
 simp only at f1 f2 f3 f4
 have hb0:Below w.heap.size w (w.alloc (.cells (recCells ⟨1,t,pg,o,p,x,bg,bf,af,ts,ps⟩ vt vp) 46)):=(Below.refl _ _).alloc (Nat.le_refl _) _
 have B0:=Lib.hid (Blk.new w 46 (recCells ⟨1,t,pg,o,p,x,bg,bf,af,ts,ps⟩ vt vp))
 have HL:=Lib.hid (hl.keep hb0)
 have HB:=Lib.hid hb0
 have H0:=Lib.hid (Buf.first (w.alloc (.cells (recCells ⟨1,t,pg,o,p,x,bg,bf,af,ts,ps⟩ vt vp) 46)) 1)
 rw [World.size_alloc] at H0
 clear hL hl hb0
 unfold recV recCells
 go_enter Tryz.func67,Tryz.ntmps67
 go_wp2_with fail
 refine (appendNumber_any H0.out (by first | omega | (simp; done)) t).mono ?_
 rintro e w1 ⟨v1,rfl,hb,_⟩
 have hl1:([lowI 1]++beI t).length≤5:=by rw [List.length_append,beI_len]; first | omega | exact Nat.le_refl _
 have H1:=Lib.hid hb
 clear hb H0 
 generalize hq:[lowI 1]++beI t=l1 at *
 have Q1:=Lib.hid hq
 clear hq
 have bx:=B0.out.keep H1.out.below B0.out.lt
 have c4:=bx.cell 4
 simp [recCells] at c4
 clear bx
 go_wp2_with fail
 refine (appendNumber_any H1.out (by first | omega | (simp; done)) p).mono ?_
 rintro e w2 ⟨v2,rfl,hb,_⟩
 have hl2:(l1++beI p).length≤9:=by rw [List.length_append,beI_len]; first | omega | exact Nat.le_refl _
 have H2:=Lib.hid hb
 clear hb H1 c4
 generalize hq:l1++beI p=l2 at *
 have Q2:=Lib.hid hq
 clear hq
 have bx:=B0.out.keep H2.out.below B0.out.lt
 have c0:=bx.cell 0
 have c2:=bx.cell 2
 have c3:=bx.cell 3
 have c8:=bx.cell 8
 simp [recCells] at c0 c2 c3 c8
 clear bx
 have hown:=own_below H2.out.own ((Below.refl w2.heap.size w2).alloc (Nat.le_refl _) (.cells #[.int .u8 (pg % 256),.int .u8 (o % 256),.int .u8 ((af.size:Int) % 256)] 5))
 have hle:=H2.out.le
 rw [World.size_alloc] at hle
 go_wp2_with (at_builtin; refine wpList_append_own _ rfl (.tmp 31) (.tmp 42) 47 rfl (w.alloc (.cells (recCells ⟨1,t,pg,o,p,x,bg,bf,af,ts,ps⟩ vt vp) 46)).heap.size 5 i0 (.int .u8 0) 1 1 Tryz.underlying47 hi hz0 hz1 hz2 rfl (by decide) v2 _ _ rfl hown ⟨w2.heap.size,0,none⟩ 3 3 [.int .u8 (pg % 256),.int .u8 (o % 256),.int .u8 ((af.size:Int) % 256)] rfl rfl (World.news_of_block (heap_alloc_new w2 _)) (by simp [Value.oneCell']) (by unfold maxLen; omega) (by omega) (by simp; omega) ?_)
 intro v3 w3 hown3 hgrow _
 have hl3:(l2++[lowI pg,lowI o,lowI af.size]).length≤12:=by rw [List.length_append]; show _+3≤_; omega
 have H3:=Lib.hid ((H2.out.more ((Below.refl _ _).alloc (Nat.le_refl _) _)).grow (m:=3) (by rw [World.size_alloc]; exact hown3) hgrow (three_cells pg o af.size))
 clear hown hown3 hgrow hle H2
 generalize hq:l2++[lowI pg,lowI o,lowI af.size]=l3 at *
 have Q3:=Lib.hid hq
 clear hq
 have bx:=B0.out.keep H3.out.below B0.out.lt
 have c7:=bx.cell 7
 simp [recCells] at c7
 clear bx
 have hown:=H3.out.own
 have hle:=H3.out.le
 rw [World.size_alloc] at hle
 go_wp2_with (at_builtin; refine Lib.wpList_append_own_string _ rfl (.tmp 44) (.tmp 46) 47 9 rfl (w.alloc (.cells (recCells ⟨1,t,pg,o,p,x,bg,bf,af,ts,ps⟩ vt vp) 46)).heap.size 5 i0 Tryz.underlying47 Tryz.underlying9 hi hz0 hz1 hz2 v3 _ _ rfl hown bf rfl (by unfold maxLen; omega) (by omega) (by simp; omega) ?_)
 intro v4 w4 hown4 hgrow _
 have hl4:(l3++bf.data.toList).length≤400:=by rw [List.length_append,size_bytes]; omega
 have H4:=Lib.hid (H3.out.grow (m:=bf.size) (by rw [World.size_alloc]; exact hown4) hgrow (strCells_bytes bf))
 clear hown hown4 hgrow hle H3
 generalize hq:l3++bf.data.toList=l4 at *
 have Q4:=Lib.hid hq
 clear hq
 have bx:=B0.out.keep H4.out.below B0.out.lt
 have c8:=bx.cell 8
 simp [recCells] at c8
 clear bx
 have hown:=H4.out.own
 have hle:=H4.out.le
 rw [World.size_alloc] at hle
 go_wp2_with (at_builtin; refine Lib.wpList_append_own_string _ rfl (.tmp 48) (.tmp 50) 47 9 rfl (w.alloc (.cells (recCells ⟨1,t,pg,o,p,x,bg,bf,af,ts,ps⟩ vt vp) 46)).heap.size 5 i0 Tryz.underlying47 Tryz.underlying9 hi hz0 hz1 hz2 v4 _ _ rfl hown af rfl (by unfold maxLen; omega) (by omega) (by simp; omega) ?_)
 intro v5 w5 hown5 hgrow _
 have hl5:(l4++af.data.toList).length≤800:=by rw [List.length_append,size_bytes]; omega
 have H5:=Lib.hid (H4.out.grow (m:=af.size) (by rw [World.size_alloc]; exact hown5) hgrow (strCells_bytes af))
 clear hown hown5 hgrow hle H4
 generalize hq:l4++af.data.toList=l5 at *
 have Q5:=Lib.hid hq
 clear hq
 have hfin:Buf (w.alloc (.cells (recCells ⟨1,t,pg,o,p,x,bg,bf,af,ts,ps⟩ vt vp) 46)) w5 v5 L:=by rw [LL.out]; exact H5.out
 obtain ⟨gg,cc,hv,hcv⟩:=hfin.conv hne
 subst hv
 have LB:=Lib.hid (HB.out.trans (H5.out.below.mono HB.out.size))
 clear H5 hfin 
 go_wp2
 go_ret
 exact ⟨rfl,LB.out⟩
set_option maxRecDepth 100000 in
set_option maxHeartbeats 8000000 in
theorem lay_und {k t p pg o x bg:Int} {bf af:ByteArray} {ts:List Row3} {ps:List Row2} (k2:k=2) (hl:Lists w ⟨k,t,pg,o,p,x,bg,bf,af,ts,ps⟩ vt vp) (hf:Fit ⟨k,t,pg,o,p,x,bg,bf,af,ts,ps⟩) (L:List UInt8) (hL:L = [lowI k]++beI t++beI p++beI x++[lowI pg,lowI o,lowI af.size]++bf.data.toList++af.data.toList) :
 Calls Tryz.prog 67 #[recV ⟨k,t,pg,o,p,x,bg,bf,af,ts,ps⟩ vt vp] w fun e w'=>e=.returned (.string ⟨L.toArray⟩)∧Below w.heap.size w w':=by
 subst k2
 obtain ⟨i0,hi,he⟩:=Option.map_eq_some_iff.1 info_byte
 simp only [Prod.mk.injEq] at he
 obtain ⟨hz0,hz1,hz2⟩:=he
 have LL:=Lib.hid hL
 have hne:L≠[]:=by rw [hL]; simp
 obtain ⟨f1,f2,f3,f4⟩:=hf
 simp only at f1 f2 f3 f4
 have hb0:Below w.heap.size w (w.alloc (.cells (recCells ⟨2,t,pg,o,p,x,bg,bf,af,ts,ps⟩ vt vp) 46)):=(Below.refl _ _).alloc (Nat.le_refl _) _
 have B0:=Lib.hid (Blk.new w 46 (recCells ⟨2,t,pg,o,p,x,bg,bf,af,ts,ps⟩ vt vp))
 have HL:=Lib.hid (hl.keep hb0)
 have HB:=Lib.hid hb0
 have H0:=Lib.hid (Buf.first (w.alloc (.cells (recCells ⟨2,t,pg,o,p,x,bg,bf,af,ts,ps⟩ vt vp) 46)) 2)
 rw [World.size_alloc] at H0
 clear hL hl hb0
 unfold recV recCells
 go_enter Tryz.func67,Tryz.ntmps67
 go_wp2_with fail
 refine (appendNumber_any H0.out (by first | omega | (simp; done)) t).mono ?_
 rintro e w1 ⟨v1,rfl,hb,_⟩
 have hl1:([lowI 2]++beI t).length≤5:=by rw [List.length_append,beI_len]; first | omega | exact Nat.le_refl _
 have H1:=Lib.hid hb
 clear hb H0 
 generalize hq:[lowI 2]++beI t=l1 at *
 have Q1:=Lib.hid hq
 clear hq
 have bx:=B0.out.keep H1.out.below B0.out.lt
 have c4:=bx.cell 4
 simp [recCells] at c4
 clear bx
 go_wp2_with fail
 refine (appendNumber_any H1.out (by first | omega | (simp; done)) p).mono ?_
 rintro e w2 ⟨v2,rfl,hb,_⟩
 have hl2:(l1++beI p).length≤9:=by rw [List.length_append,beI_len]; first | omega | exact Nat.le_refl _
 have H2:=Lib.hid hb
 clear hb H1 c4
 generalize hq:l1++beI p=l2 at *
 have Q2:=Lib.hid hq
 clear hq
 have bx:=B0.out.keep H2.out.below B0.out.lt
 have c0:=bx.cell 0
 have c5:=bx.cell 5
 simp [recCells] at c0 c5
 clear bx
 go_wp2_with fail
 refine (appendNumber_any H2.out (by first | omega | (simp; done)) x).mono ?_
 rintro e w3 ⟨v3,rfl,hb,_⟩
 have hl3:(l2++beI x).length≤13:=by rw [List.length_append,beI_len]; first | omega | exact Nat.le_refl _
 have H3:=Lib.hid hb
 clear hb H2 c0 c5
 generalize hq:l2++beI x=l3 at *
 have Q3:=Lib.hid hq
 clear hq
 have bx:=B0.out.keep H3.out.below B0.out.lt
 have c2:=bx.cell 2
 have c3:=bx.cell 3
 have c8:=bx.cell 8
 simp [recCells] at c2 c3 c8
 clear bx
 have hown:=own_below H3.out.own ((Below.refl w3.heap.size w3).alloc (Nat.le_refl _) (.cells #[.int .u8 (pg % 256),.int .u8 (o % 256),.int .u8 ((af.size:Int) % 256)] 5))
 have hle:=H3.out.le
 rw [World.size_alloc] at hle
 go_wp2_with (at_builtin; refine wpList_append_own _ rfl (.tmp 31) (.tmp 42) 47 rfl (w.alloc (.cells (recCells ⟨2,t,pg,o,p,x,bg,bf,af,ts,ps⟩ vt vp) 46)).heap.size 5 i0 (.int .u8 0) 1 1 Tryz.underlying47 hi hz0 hz1 hz2 rfl (by decide) v3 _ _ rfl hown ⟨w3.heap.size,0,none⟩ 3 3 [.int .u8 (pg % 256),.int .u8 (o % 256),.int .u8 ((af.size:Int) % 256)] rfl rfl (World.news_of_block (heap_alloc_new w3 _)) (by simp [Value.oneCell']) (by unfold maxLen; omega) (by omega) (by simp; omega) ?_)
 intro v4 w4 hown4 hgrow _
 have hl4:(l3++[lowI pg,lowI o,lowI af.size]).length≤16:=by rw [List.length_append]; show _+3≤_; omega
 have H4:=Lib.hid ((H3.out.more ((Below.refl _ _).alloc (Nat.le_refl _) _)).grow (m:=3) (by rw [World.size_alloc]; exact hown4) hgrow (three_cells pg o af.size))
 clear hown hown4 hgrow hle H3
 generalize hq:l3++[lowI pg,lowI o,lowI af.size]=l4 at *
 have Q4:=Lib.hid hq
 clear hq
 have bx:=B0.out.keep H4.out.below B0.out.lt
 have c7:=bx.cell 7
 simp [recCells] at c7
 clear bx
 have hown:=H4.out.own
 have hle:=H4.out.le
 rw [World.size_alloc] at hle
 go_wp2_with (at_builtin; refine Lib.wpList_append_own_string _ rfl (.tmp 44) (.tmp 46) 47 9 rfl (w.alloc (.cells (recCells ⟨2,t,pg,o,p,x,bg,bf,af,ts,ps⟩ vt vp) 46)).heap.size 5 i0 Tryz.underlying47 Tryz.underlying9 hi hz0 hz1 hz2 v4 _ _ rfl hown bf rfl (by unfold maxLen; omega) (by omega) (by simp; omega) ?_)
 intro v5 w5 hown5 hgrow _
 have hl5:(l4++bf.data.toList).length≤400:=by rw [List.length_append,size_bytes]; omega
 have H5:=Lib.hid (H4.out.grow (m:=bf.size) (by rw [World.size_alloc]; exact hown5) hgrow (strCells_bytes bf))
 clear hown hown5 hgrow hle H4
 generalize hq:l4++bf.data.toList=l5 at *
 have Q5:=Lib.hid hq
 clear hq
 have bx:=B0.out.keep H5.out.below B0.out.lt
 have c8:=bx.cell 8
 simp [recCells] at c8
 clear bx
 have hown:=H5.out.own
 have hle:=H5.out.le
 rw [World.size_alloc] at hle
 go_wp2_with (at_builtin; refine Lib.wpList_append_own_string _ rfl (.tmp 48) (.tmp 50) 47 9 rfl (w.alloc (.cells (recCells ⟨2,t,pg,o,p,x,bg,bf,af,ts,ps⟩ vt vp) 46)).heap.size 5 i0 Tryz.underlying47 Tryz.underlying9 hi hz0 hz1 hz2 v5 _ _ rfl hown af rfl (by unfold maxLen; omega) (by omega) (by simp; omega) ?_)
 intro v6 w6 hown6 hgrow _
 have hl6:(l5++af.data.toList).length≤800:=by rw [List.length_append,size_bytes]; omega
 have H6:=Lib.hid (H5.out.grow (m:=af.size) (by rw [World.size_alloc]; exact hown6) hgrow (strCells_bytes af))
 clear hown hown6 hgrow hle H5
 generalize hq:l5++af.data.toList=l6 at *
 have Q6:=Lib.hid hq
 clear hq
 have hfin:Buf (w.alloc (.cells (recCells ⟨2,t,pg,o,p,x,bg,bf,af,ts,ps⟩ vt vp) 46)) w6 v6 L:=by rw [LL.out]; exact H6.out
 obtain ⟨gg,cc,hv,hcv⟩:=hfin.conv hne
 subst hv
 have LB:=Lib.hid (HB.out.trans (H6.out.below.mono HB.out.size))
 clear H6 hfin 
 go_wp2
 go_ret
 exact ⟨rfl,LB.out⟩
end
end Go.Proofs.YthkbcfhjmnpggaaGreat

namespace Go.Proofs.YthkbcfhjmnpggaaGreat
open Go.RowKit
set_option maxRecDepth 100000 in
set_option maxHeartbeats 16000000 in
theorem same_any {w:World} {va vb:Value} {a b:Rc} (ha:IsRec w va a) (hb:IsRec w vb b) (yes:Bool) (hy:yes=decide (a=b)) :
 Calls Tryz.prog 69 #[va,vb] w fun e w'=>e=.returned (.bool yes)∧Below w.heap.size w w':=by
 obtain ⟨at_,ap,rfl,la⟩:=ha
 obtain ⟨bt,bp,rfl,lb⟩:=hb
 have HY:=Lib.hid hy
 have hB:Below w.heap.size w ((w.alloc (.cells (recCells a at_ ap) 46)).alloc (.cells (recCells b bt bp) 46)):=((Below.refl _ _).alloc (Nat.le_refl _) _).alloc (by simp) _
 have E3:=Lib.hid (fun W (hW:Below w.heap.size w W)=>equal3_any (la.t.keep hW) (lb.t.keep hW) (decide (a.txns=b.txns)) rfl)
 have E2:=Lib.hid (fun W (hW:Below w.heap.size w W)=>equal2_any (la.p.keep hW) (lb.p.keep hW) (decide (a.pages=b.pages)) rfl)
 clear hy la lb hB
 unfold recV recCells
 go_enter Tryz.func69,Tryz.ntmps69
 go_wp2_with fail
 ·refine (E3.out _ (((Below.refl _ _).alloc (Nat.le_refl _) _).alloc (by simp) _)).mono ?_
  rintro e w1 ⟨rfl,hb1⟩
  have p10:=hb1.cell (p:=⟨w.heap.size,10,none⟩) (by simp; omega)
  have q10:=hb1.cell (p:=⟨w.heap.size+1,10,none⟩) (by simp)
  simp [go_sem] at p10 q10
  have hb:Below w.heap.size w w1:=(((Below.refl _ _).alloc (Nat.le_refl _) _).alloc (by simp) _).trans (hb1.mono (by simp; omega))
  have HB:=Lib.hid hb
  clear hb hb1
  by_cases ht:a.txns=b.txns
  ·have hd:decide (a.txns=b.txns)=true:=decide_eq_true ht
   rw [hd]
   have HT:=Lib.hid ht
   clear ht hd
   go_wp2_with fail
   refine (E2.out _ HB.out).mono ?_
   rintro e w2 ⟨rfl,hb2⟩
   have HB2:=Lib.hid (HB.out.trans (hb2.mono HB.out.size))
   have hfin:yes=decide (a.pages=b.pages):=by
    rw [HY.out]
    have h8:a.before=b.before:=str_ext (by simpa only [ByteArray.toList_eq] using ‹a.before.toList=b.before.toList›)
    have h9:a.after=b.after:=str_ext (by simpa only [ByteArray.toList_eq] using ‹a.after.toList=b.after.toList›)
    refine decide_eq_decide.2 ⟨fun h=>by rw [h],fun h=>?_⟩
    exact Rc.ext11 ‹a.kind=b.kind› ‹a.txn=b.txn› ‹a.page=b.page› ‹a.off=b.off› ‹a.prev=b.prev› ‹a.next=b.next› ‹a.beg=b.beg› h8 h9 HT.out h
   have HF:=Lib.hid hfin
   clear hfin hb2 HB
   go_wp2
   go_ret
   refine ⟨?_,HB2.out⟩
   show Ending.returned (.bool (decide (a.pages=b.pages)))=_
   rw [HF.out]
  ·have hd:decide (a.txns=b.txns)=false:=decide_eq_false ht
   rw [hd]
   have hno:yes=false:=by rw [HY.out]; exact decide_eq_false (by rintro rfl; exact ht rfl)
   subst hno
   clear hd HY ht
   go_wp2
   go_ret
   exact ⟨rfl,HB.out⟩
 all_goals
  have hno:yes=false:=by rw [HY.out]; exact decide_eq_false (by rintro rfl; simp_all)
  subst hno
  go_ret
  exact ⟨rfl,((Below.refl _ _).alloc (Nat.le_refl _) _).alloc (by simp) _⟩
end Go.Proofs.YthkbcfhjmnpggaaGreat

namespace Go.Proofs.YthkbcfhjmnpggaaGreat
open Go.RowKit
theorem lay_eqs (k t p pg o x bg:Int) (bf af:ByteArray) (ts:List Row3) (ps:List Row2) :
 (k=1→lay ⟨k,t,pg,o,p,x,bg,bf,af,ts,ps⟩ = [lowI k]++beI t++beI p++[lowI pg,lowI o,lowI af.size]++bf.data.toList++af.data.toList) ∧
 (k=2→lay ⟨k,t,pg,o,p,x,bg,bf,af,ts,ps⟩ = [lowI k]++beI t++beI p++beI x++[lowI pg,lowI o,lowI af.size]++bf.data.toList++af.data.toList) ∧
 (k≤4→k≠1→k≠2→lay ⟨k,t,pg,o,p,x,bg,bf,af,ts,ps⟩ = [lowI k]++beI t++beI p) ∧
 (4 < k→k≠6→lay ⟨k,t,pg,o,p,x,bg,bf,af,ts,ps⟩ = [lowI k]) ∧
 (k=6→lay ⟨k,t,pg,o,p,x,bg,bf,af,ts,ps⟩ = [lowI k]++encTab ⟨k,t,pg,o,p,x,bg,bf,af,ts,ps⟩):=by
 refine ⟨?_,?_,?_,?_,?_⟩
 · rintro rfl; simp [lay]
 · rintro rfl; simp [lay]
 · intro h1 h2 h3; simp [lay,h1,h2,h3,show ¬ k=6 by omega]
 · intro h1 h2; simp [lay,h2,show ¬ k≤4 by omega,show ¬ k=1 by omega,show ¬ k=2 by omega]
 · rintro rfl; simp [lay]
theorem lay_any {w:World} {v:Value} {r:Rc} (hv:IsRec w v r) (hf:Fit r) :
 Calls Tryz.prog 67 #[v] w fun e w'=>e=.returned (.string ⟨(lay r).toArray⟩)∧Below w.heap.size w w':=by
 obtain ⟨vt,vp,rfl,hl⟩:=hv
 obtain ⟨k,t,pg,o,p,x,bg,bf,af,ts,ps⟩:=r
 obtain ⟨e1,e2,e3,e4,e5⟩:=lay_eqs k t p pg o x bg bf af ts ps
 by_cases h1:k=1
 · exact lay_upd h1 hl hf _ (e1 h1)
 ·by_cases h2:k=2
  · exact lay_und h2 hl hf _ (e2 h2)
  ·by_cases h4:k≤4
   · exact lay_com h4 h1 h2 hl hf _ (e3 h4 h1 h2)
   ·by_cases h6:k=6
    · exact lay_tab h6 hl hf _ (e5 h6)
    · exact lay_none (by omega) h6 h1 h2 hl hf _ (e4 (by omega) h6)
theorem lay_len {r:Rc} (hf:Fit r):(lay r).length≤2000:=by
 obtain ⟨f1,f2,f3,f4⟩:=hf
 have s1:r.before.data.toList.length=r.before.size:=rfl
 have s2:r.after.data.toList.length=r.after.size:=rfl
 unfold lay encTab
 split <;> split <;> split <;> split <;> simp only [List.length_append,List.length_cons,List.length_nil,beI_len,flat3_len,flat2_len,s1,s2] <;> omega
theorem May.fit {r:Rc} (h:May r):Fit r:=by
 cases h with
 | upd ht hn hp hs hb=>obtain ⟨_,_,h3,_⟩:=hs; refine ⟨?_,?_,?_,?_⟩ <;> simp only [Rc.upd,List.length_nil] <;> omega
 | und ht hn hp hx hs=>obtain ⟨_,_,h3,_⟩:=hs; refine ⟨Nat.zero_le _,?_,?_,?_⟩ <;> simp only [Rc.und,List.length_nil] <;> omega
 | com hk ht hn hp=>exact ⟨Nat.zero_le _,Nat.zero_le _,Nat.zero_le _,Nat.zero_le _⟩
 | beg=>exact ⟨Nat.zero_le _,Nat.zero_le _,Nat.zero_le _,Nat.zero_le _⟩
 | tab hb ht hp h3 h2=>refine ⟨Nat.zero_le _,Nat.zero_le _,?_,?_⟩ <;> simp only [Rc.tab] <;> omega
theorem readR_lay (r:Rc):readR ⟨(lay r).toArray⟩ 0=readOut ⟨(lay r).toArray⟩ (recP (lay r)):=by
 unfold readR
 rw [if_neg (by omega)]
 simp
theorem rdRead_as (s:ByteArray) (at_:Int) (w:World) {r:Rc} {n er:Int} (hx:readR s at_=(r,n,er)) (hs:s.size≤maxLen) :
 Calls Tryz.prog 68 #[.string s,.int .i64 at_] w fun e w'=>∃ v,e=.returned (.tuple #[v,.int .i64 n,.int .i64 er])∧IsRec w' v r∧Below w.heap.size w w':=by
 have:=rdRead_any s at_ w hs
 rw [hx] at this
 exact this
set_option maxRecDepth 100000 in
set_option maxHeartbeats 8000000 in
theorem print_yes {w:World} {v:Value} {r:Rc} (hv:IsRec w v r) (hm:May r) :
 Calls Tryz.prog 38 #[v] w fun e w'=>e=.returned (.tuple #[.string ⟨(lay r).toArray⟩,.int .i64 0])∧Below w.heap.size w w':=by
 have hf:=hm.fit
 have HL:=Lib.hid (fun W (hb:Below w.heap.size w W)=>lay_any (hv.keep hb) hf)
 have hrr:=readR_lay r
 have hp:=recP_lay hm []
 rw [List.append_nil] at hp
 rw [hp] at hrr
 change _=(r,((⟨(lay r).toArray⟩:ByteArray).size:Int) - (([]:List UInt8).length:Int),(0:Int)) at hrr
 generalize ((⟨(lay r).toArray⟩:ByteArray).size:Int) - (([]:List UInt8).length:Int)=nn at hrr
 have hlen:=lay_len hf
 have HR:=Lib.hid (fun W=>rdRead_as ⟨(lay r).toArray⟩ 0 W hrr (by rw [show (⟨(lay r).toArray⟩:ByteArray).size=(lay r).length from by simp [ByteArray.size]]; unfold maxLen; omega))
 have HV:=Lib.hid hv
 obtain ⟨vt,vp,rfl,hl⟩:=hv
 have B0:=Lib.hid (Blk.new w 46 (recCells r vt vp))
 have hb0:Below w.heap.size w (w.alloc (.cells (recCells r vt vp) 46)):=(Below.refl _ _).alloc (Nat.le_refl _) _
 have HB0:=Lib.hid hb0
 clear hl hb0 hrr hf hlen hp hm
 generalize (⟨(lay r).toArray⟩:ByteArray)=s at *
 unfold recV
 go_enter Tryz.func38,Tryz.ntmps38
 have bx:=B0.out
 go_wp2_with (refine wpList_load_row rfl 46 _ rfl w.heap.size rfl 46 _ (0,0) _ bx Tryz.underlying46 rfl (by kernel_rfl) ?_)
 clear bx
 refine (HL.out _ HB0.out).mono ?_
 rintro e w1 ⟨rfl,hb1⟩
 have B1:=Lib.hid (B0.out.keep hb1 B0.out.lt)
 have HB1:=Lib.hid (HB0.out.trans (hb1.mono HB0.out.size))
 clear hb1 HL B0 HB0
 go_wp2_with fail
 refine (HR.out _).mono ?_
 rintro e w2 ⟨v',rfl,⟨vt',vp',hv',hl'⟩,hb2⟩
 subst hv'
 have B2:=B1.out.keep hb2 B1.out.lt
 have HB2:=Lib.hid (HB1.out.trans (hb2.mono HB1.out.size))
 have one:=hl'.one
 have hn:=Blk.new w2 46 (recCells .nil (.slice none 0 0) (.slice none 0 0))
 have B3:=(B2.alloc (.cells (recCells .nil (.slice none 0 0) (.slice none 0 0)) 46)).farRow (k:=w2.heap.size) (by have:=B2.lt; omega) (recCells r vt' vp')
 have N3:=hn.setRow (recCells r vt' vp')
 have hb3:Below w2.heap.size w2 ((w2.alloc (.cells (recCells .nil (.slice none 0 0) (.slice none 0 0)) 46)).setRow w2.heap.size (recCells r vt' vp')):=below_setRow ((Below.refl _ _).alloc (Nat.le_refl _) _) (Nat.le_refl _) _
 have HL3:=Lib.hid (hl'.keep hb3)
 have HB3:=Lib.hid (HB2.out.trans (hb3.mono HB2.out.size))
 clear hb2 hl' B2 hb3 B1 HB1 HR HB2
 go_wp2_with (first
  | (refine wpList_store_row rfl 46 _ _ rfl w2.heap.size _ rfl rfl 46 _ hn (by kernel_rfl) rfl one ?_)
  | (refine wpList_load_rowG rfl 46 _ rfl w2.heap.size rfl 46 _ (0,0) _ N3 Tryz.underlying46 rfl (by kernel_rfl) ?_)
  | (refine wpList_load_rowG rfl 46 _ rfl w.heap.size rfl 46 _ (0,0) _ B3 Tryz.underlying46 rfl (by kernel_rfl) ?_))
 refine (same_any (a:=r) (b:=r) ⟨vt',vp',rfl,HL3.out⟩ (HV.out.keep HB3.out) true (by simp)).mono ?_
 rintro e w4 ⟨rfl,hb4⟩
 have LB:=Lib.hid (HB3.out.trans (hb4.mono HB3.out.size))
 clear hb4 HL3 HB3 B3 N3 hn HV one
 go_wp2
 go_ret2
 exact ⟨rfl,LB.out⟩
set_option maxRecDepth 100000 in
set_option maxHeartbeats 8000000 in
theorem print_neq {w:World} {v:Value} {r:Rc} (hv:IsRec w v r) (hf:Fit r) {x:Rc} {l:List UInt8} (hp:recP (lay r)=some (x,l)) (hne:¬ x=r) :
 Calls Tryz.prog 38 #[v] w fun e w'=>e=.returned (.tuple #[.string ⟨#[]⟩,.int .i64 1])∧Below w.heap.size w w':=by
 have HL:=Lib.hid (fun W (hb:Below w.heap.size w W)=>lay_any (hv.keep hb) hf)
 have hrr:=readR_lay r
 rw [hp] at hrr
 change _=(x,((⟨(lay r).toArray⟩:ByteArray).size:Int) - (l.length:Int),(0:Int)) at hrr
 generalize ((⟨(lay r).toArray⟩:ByteArray).size:Int) - (l.length:Int)=nn at hrr
 have HNE:=Lib.hid hne
 have hlen:=lay_len hf
 have HR:=Lib.hid (fun W=>rdRead_as ⟨(lay r).toArray⟩ 0 W hrr (by rw [show (⟨(lay r).toArray⟩:ByteArray).size=(lay r).length from by simp [ByteArray.size]]; unfold maxLen; omega))
 have HV:=Lib.hid hv
 obtain ⟨vt,vp,rfl,hl⟩:=hv
 have B0:=Lib.hid (Blk.new w 46 (recCells r vt vp))
 have hb0:Below w.heap.size w (w.alloc (.cells (recCells r vt vp) 46)):=(Below.refl _ _).alloc (Nat.le_refl _) _
 have HB0:=Lib.hid hb0
 clear hl hb0 hrr hf hlen hp hne
 generalize (⟨(lay r).toArray⟩:ByteArray)=s at *
 unfold recV
 go_enter Tryz.func38,Tryz.ntmps38
 have bx:=B0.out
 go_wp2_with (refine wpList_load_row rfl 46 _ rfl w.heap.size rfl 46 _ (0,0) _ bx Tryz.underlying46 rfl (by kernel_rfl) ?_)
 clear bx
 refine (HL.out _ HB0.out).mono ?_
 rintro e w1 ⟨rfl,hb1⟩
 have B1:=Lib.hid (B0.out.keep hb1 B0.out.lt)
 have HB1:=Lib.hid (HB0.out.trans (hb1.mono HB0.out.size))
 clear hb1 HL B0 HB0
 go_wp2_with fail
 refine (HR.out _).mono ?_
 rintro e w2 ⟨v',rfl,⟨vt',vp',hv',hl'⟩,hb2⟩
 subst hv'
 have B2:=B1.out.keep hb2 B1.out.lt
 have HB2:=Lib.hid (HB1.out.trans (hb2.mono HB1.out.size))
 have one:=hl'.one
 have hn:=Blk.new w2 46 (recCells .nil (.slice none 0 0) (.slice none 0 0))
 have B3:=(B2.alloc (.cells (recCells .nil (.slice none 0 0) (.slice none 0 0)) 46)).farRow (k:=w2.heap.size) (by have:=B2.lt; omega) (recCells x vt' vp')
 have N3:=hn.setRow (recCells x vt' vp')
 have hb3:Below w2.heap.size w2 ((w2.alloc (.cells (recCells .nil (.slice none 0 0) (.slice none 0 0)) 46)).setRow w2.heap.size (recCells x vt' vp')):=below_setRow ((Below.refl _ _).alloc (Nat.le_refl _) _) (Nat.le_refl _) _
 have HL3:=Lib.hid (hl'.keep hb3)
 have HB3:=Lib.hid (HB2.out.trans (hb3.mono HB2.out.size))
 clear hb2 hl' B2 hb3 B1 HB1 HR HB2
 go_wp2_with (first
  | (refine wpList_store_row rfl 46 _ _ rfl w2.heap.size _ rfl rfl 46 _ hn (by kernel_rfl) rfl one ?_)
  | (refine wpList_load_rowG rfl 46 _ rfl w2.heap.size rfl 46 _ (0,0) _ N3 Tryz.underlying46 rfl (by kernel_rfl) ?_)
  | (refine wpList_load_rowG rfl 46 _ rfl w.heap.size rfl 46 _ (0,0) _ B3 Tryz.underlying46 rfl (by kernel_rfl) ?_))
 refine (same_any (a:=x) (b:=r) ⟨vt',vp',rfl,HL3.out⟩ (HV.out.keep HB3.out) false (by simpa using HNE.out)).mono ?_
 rintro e w4 ⟨rfl,hb4⟩
 have LB:=Lib.hid (HB3.out.trans (hb4.mono HB3.out.size))
 clear hb4 HL3 HB3 B3 N3 hn HV one
 go_wp2
 go_ret2
 exact ⟨rfl,LB.out⟩
set_option maxRecDepth 100000 in
set_option maxHeartbeats 8000000 in
theorem print_err {w:World} {v:Value} {r:Rc} (hv:IsRec w v r) (hf:Fit r) (hp:recP (lay r)=none) :
 Calls Tryz.prog 38 #[v] w fun e w'=>e=.returned (.tuple #[.string ⟨#[]⟩,.int .i64 1])∧Below w.heap.size w w':=by
 have HL:=Lib.hid (fun W (hb:Below w.heap.size w W)=>lay_any (hv.keep hb) hf)
 have hrr:=readR_lay r
 rw [hp] at hrr
 change _=(Rc.nil,(0:Int),(3:Int)) at hrr
 have hlen:=lay_len hf
 have HR:=Lib.hid (fun W=>rdRead_as ⟨(lay r).toArray⟩ 0 W hrr (by rw [show (⟨(lay r).toArray⟩:ByteArray).size=(lay r).length from by simp [ByteArray.size]]; unfold maxLen; omega))
 have HV:=Lib.hid hv
 obtain ⟨vt,vp,rfl,hl⟩:=hv
 have B0:=Lib.hid (Blk.new w 46 (recCells r vt vp))
 have hb0:Below w.heap.size w (w.alloc (.cells (recCells r vt vp) 46)):=(Below.refl _ _).alloc (Nat.le_refl _) _
 have HB0:=Lib.hid hb0
 clear hl hb0 hrr hf hlen hp
 generalize (⟨(lay r).toArray⟩:ByteArray)=s at *
 unfold recV
 go_enter Tryz.func38,Tryz.ntmps38
 have bx:=B0.out
 go_wp2_with (refine wpList_load_row rfl 46 _ rfl w.heap.size rfl 46 _ (0,0) _ bx Tryz.underlying46 rfl (by kernel_rfl) ?_)
 clear bx
 refine (HL.out _ HB0.out).mono ?_
 rintro e w1 ⟨rfl,hb1⟩
 have B1:=Lib.hid (B0.out.keep hb1 B0.out.lt)
 have HB1:=Lib.hid (HB0.out.trans (hb1.mono HB0.out.size))
 clear hb1 HL B0 HB0
 go_wp2_with fail
 refine (HR.out _).mono ?_
 rintro e w2 ⟨v',rfl,⟨vt',vp',hv',hl'⟩,hb2⟩
 subst hv'
 have B2:=B1.out.keep hb2 B1.out.lt
 have HB2:=Lib.hid (HB1.out.trans (hb2.mono HB1.out.size))
 have one:=hl'.one
 have hn:=Blk.new w2 46 (recCells .nil (.slice none 0 0) (.slice none 0 0))
 have B3:=(B2.alloc (.cells (recCells .nil (.slice none 0 0) (.slice none 0 0)) 46)).farRow (k:=w2.heap.size) (by have:=B2.lt; omega) (recCells Rc.nil vt' vp')
 have N3:=hn.setRow (recCells Rc.nil vt' vp')
 have hb3:Below w2.heap.size w2 ((w2.alloc (.cells (recCells .nil (.slice none 0 0) (.slice none 0 0)) 46)).setRow w2.heap.size (recCells Rc.nil vt' vp')):=below_setRow ((Below.refl _ _).alloc (Nat.le_refl _) _) (Nat.le_refl _) _
 have HL3:=Lib.hid (hl'.keep hb3)
 have HB3:=Lib.hid (HB2.out.trans (hb3.mono HB2.out.size))
 clear hb2 hl' B2 hb3 B1 HB1 HR HB2
 clear B3 N3
 go_wp2_with (refine wpList_store_row rfl 46 _ _ rfl w2.heap.size _ rfl rfl 46 _ hn (by kernel_rfl) rfl one ?_)
 go_ret2
 exact ⟨rfl,HB3.out⟩
theorem print_no {w:World} {v:Value} {r:Rc} (hv:IsRec w v r) (hf:Fit r) (hm:¬ May r) :
 Calls Tryz.prog 38 #[v] w fun e w'=>e=.returned (.tuple #[.string ⟨#[]⟩,.int .i64 1])∧Below w.heap.size w w':=by
 cases hp:recP (lay r) with
 | none=>exact print_err hv hf hp
 | some x =>
   obtain ⟨x,l⟩:=x
   refine print_neq hv hf hp ?_
   rintro rfl
   exact hm (recP_some hp).1
end Go.Proofs.YthkbcfhjmnpggaaGreat

namespace Go.Proofs.YthkbcfhjmnpggaaGreat
open Go.RowKit
theorem may_small {r:Rc} (h:May r):r.after.size≤16∧r.txns.length≤4∧r.pages.length≤8:=by
 cases h with
 | @upd t p pg o b a ht hn hp hs hb =>
   obtain ⟨_,_,⟨h1,h2⟩,_⟩:=hs
   exact ⟨h2,Nat.zero_le _,Nat.zero_le _⟩
 | @und t p n pg o a ht hn hp hx hs =>
   obtain ⟨_,_,⟨h1,h2⟩,_⟩:=hs
   exact ⟨h2,Nat.zero_le _,Nat.zero_le _⟩
 | @com k t p hk ht hn hp=>exact ⟨Nat.zero_le _,Nat.zero_le _,Nat.zero_le _⟩
 | beg=>exact ⟨Nat.zero_le _,Nat.zero_le _,Nat.zero_le _⟩
 | @tab b ts ps hb ht hp h3 h2=>exact ⟨Nat.zero_le _,ht,hp⟩
theorem lay_short {r:Rc} (h:May r):(lay r).length≤112:=by
 obtain ⟨h1,h2,h3⟩:=may_small h
 rcases lay_long h with ⟨hk,hl⟩ | ⟨hk,hl⟩ | ⟨hk,hl⟩ | ⟨hk,hl⟩ | ⟨hk,hl⟩ | ⟨hk,hl⟩ <;> omega
end Go.Proofs.YthkbcfhjmnpggaaGreat
