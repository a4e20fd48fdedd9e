/- Texts that belong together, joined: WalG, WlC, WlD. -/
import Derived.Test.YthkbcfhjmnpggaaGreatK16
import Derived.IntWalk
namespace Go.Proofs.YthkbcfhjmnpggaaGreat
open Go.RowKit
def epochOf (L:List Slab3):Nat:=L.foldl (fun e x=>max e (x.1+1)) 1
theorem epochOf_snoc (L:List Slab3) (x:Slab3):epochOf (L++[x])=max (epochOf L) (x.1+1):=by simp [epochOf]
theorem epochOf_le {L:List Slab3} (h:∀ x ∈ L,x.1 < 4294967296):1≤epochOf L∧epochOf L≤4294967296:=by
 revert h
 refine snoc_ind (p:=fun L=>(∀ x ∈ L,x.1 < 4294967296)→1≤epochOf L∧epochOf L≤4294967296) (fun _=>by simp [epochOf]) ?_ L
 intro L x ih h
 rw [epochOf_snoc]
 have:=ih fun y hy=>h y (by simp [hy])
 have:=h x (by simp)
 omega
theorem epochOf_gt {L:List Slab3} {x:Slab3} (h:x ∈ L):x.1 < epochOf L:=by
 revert h
 refine snoc_ind (p:=fun L=>x ∈ L→x.1 < epochOf L) (fun h=>by simp at h) ?_ L
 intro L y ih h
 rw [epochOf_snoc]
 rcases List.mem_append.1 h with h | h
 · have:=ih h; omega
 · simp at h; subst h; omega
theorem slab3_ok (s:ByteArray):(slab3 s).1 < 4294967296∧(slab3 s).2.1 < 4294967296∧(slab3 s).2.2.size≤112:=by
 unfold slab3
 split
 · rename_i h; exact ⟨num4_lt _,num4_lt _,partB_size h⟩
 · exact ⟨by decide,by decide,Nat.zero_le _⟩
theorem ring_mem {l:Wl} {D:Dk} {k:Nat} {x:Slab3} (h:x ∈ ringOf l D k):x.1 < 4294967296∧x.2.1 < 4294967296∧x.2.2.size≤112:=by
 unfold ringOf at h
 obtain ⟨i,_,rfl⟩:=List.mem_map.1 h
 exact slab3_ok _
theorem wholeP_len:∀ (a i:Nat) (L:List Slab3),(wholeP a i L).length≤L.length
 | _,_,[]=>Nat.le_refl _
 | a,i,x::L=>by
   unfold wholeP
   split
   · have:=wholeP_len x.1 (i+1) L; simp only [List.length_cons]; omega
   · simp
theorem wholeP_mem:∀ (a i:Nat) (L:List Slab3) (b:ByteArray),b ∈ wholeP a i L→(∃ x ∈ L,x.2.2=b)∧b.size≠0∧(allS b).isSome=true
 | _,_,[],b,h=>by simp [wholeP] at h
 | a,i,x::L,b,h=>by
   unfold wholeP at h
   split at h
   ·rename_i hc
    rcases List.mem_cons.1 h with rfl | h
    · exact ⟨⟨x,by simp,rfl⟩,hc.2.1,hc.2.2.1⟩
    ·obtain ⟨⟨y,hy,e⟩,h2⟩:=wholeP_mem _ _ L b h
     exact ⟨⟨y,by simp [hy],e⟩,h2⟩
   · simp at h
def Wl.head (base n low:Nat):Wl:={ Wl.new base n with low:=low }
noncomputable def Wl.opened (D:Dk) (base n low:Nat):Wl :=
 ⟨base,n,epochOf (ringOf (Wl.head base n low) D n),low,low+(wholeP 0 low (ringOf (Wl.head base n low) D n)).length,(wholeP 0 low (ringOf (Wl.head base n low) D n)).map recsOf⟩
theorem Wl.opened_bodies (D:Dk) (base n low:Nat):(Wl.opened D base n low).secs.map bodyS=wholeP 0 low (ringOf (Wl.head base n low) D n):=by
 unfold Wl.opened
 simp only [List.map_map]
 conv=>rhs; rw [← List.map_id (wholeP 0 low (ringOf (Wl.head base n low) D n))]
 refine List.map_congr_left fun b hb=>?_
 exact (body_recs (wholeP_mem _ _ _ b hb).2.2).1
theorem Wl.Ok.opened {D:Dk} {base n low:Nat} (h8:8≤n) (h64:n≤64) (hb:base+n≤512) (hl:1≤low) (hlm:low≤16777216):(Wl.opened D base n low).Ok:=by
 have he:=epochOf_le (L:=ringOf (Wl.head base n low) D n) fun x hx=>(ring_mem hx).1
 have hlen:(wholeP 0 low (ringOf (Wl.head base n low) D n)).length≤n:=by
  have:=wholeP_len 0 low (ringOf (Wl.head base n low) D n)
  simpa [ringOf] using this
 refine ⟨h8,h64,hb,hl,by show low≤_; omega,Nat.le_add_right _ _,?_,?_,fun rs hrs=>?_,he.1,he.2⟩
 · unfold Wl.end_ Wl.opened; simp
 · unfold Wl.opened; simpa using hlen
 ·unfold Wl.opened at hrs
  obtain ⟨b,hbm,rfl⟩:=List.mem_map.1 hrs
  obtain ⟨⟨x,hx,rfl⟩,h0,hs⟩:=wholeP_mem _ _ _ b hbm
  obtain ⟨h1,h2⟩:=body_recs hs
  have hsz:=congrArg ByteArray.size h1
  rw [bodyS_size] at hsz
  refine ⟨fun e=>?_,h2,by rw [hsz]; exact (ring_mem hx).2.2⟩
  rw [e] at hsz
  simp [body] at hsz
  omega
theorem LogR.setHead {w:World} {F:Foot} {g gd:Nat} {l l':Wl} {vb vb':Value} {n m:Nat} {bs cs:List ByteArray} (h:LogR w F g gd l vb n bs) (i:Nat) (v:Value) (hc:(logCells gd l vb).setIfInBounds i v=logCells gd l' vb') {F':Foot} (hF:∀ b,F b→F' b) (hlt:∀ b,F' b→b < w.heap.size)
 (hr:w.ownsRow 0 9 1 vb' m (strsV cs)) (hv:∀ b,vb'.ownBlock=some b→F' b):LogR (w.setCell ⟨g,i,none⟩ v) F' g gd l' vb' m cs :=
 ⟨hc ▸ h.head.set i v,own_keep hr fun b hb=>heap_setCell_other w ⟨g,i,none⟩ b v fun e=>own_blk hr h.head (by decide) (by rw [hb,e]),hF _ h.fg,hv,fun b hb=>by simpa [World.setCell] using hlt b hb⟩
theorem own_zero {w:World} {base size n:Nat} {e:TypeId} {v:Value} {xs:List Value} (h:w.ownsRow base e size v n xs):w.ownsRow 0 e size v n xs:=by
 obtain ⟨hl,h | ⟨g,cap,cur,rfl,_,h2⟩⟩:=h
 · exact ⟨hl,.inl h⟩
 · exact ⟨hl,.inr ⟨g,cap,cur,rfl,Nat.zero_le _,h2⟩⟩
section
variable {w:World} {FD:Foot} {gd:Nat} {D:Dk}
set_option maxRecDepth 100000 in
set_option maxHeartbeats 8000000 in
theorem open_ok (h:IsDisk w FD gd D) (hgone:D.gone=false) (base n low:Nat) (h8:8≤n) (h64:n≤64) (hb:base+n≤D.safe.length) (hl:1≤low) (hlm:low≤16777216) :
 Calls Tryz.prog 22 #[.pointer (some ⟨gd,0,none⟩),.int .i64 base,.int .i64 n,.int .i64 low] w fun e w'=>∃ g F,e=.returned (.tuple #[.pointer (some ⟨g,0,none⟩),.int .i64 0])∧IsLog w' F g gd (Wl.opened D base n low)∧(∀ b,F b→w.heap.size≤b)∧Below w.heap.size w w':=by
 have HD:=Lib.hid h
 have H1:=Lib.hid (logNew_ok h base n h8 h64 hb)
 have DE:Hid (∀ W,Below w.heap.size w W→Calls Tryz.prog 55 #[.pointer (some ⟨gd,0,none⟩)] W fun e w'=>e=.returned (.bool D.gone)∧W=w'):=fun W hW=>dead_any (h.below hW)
 rw [hgone] at DE
 have hb5:base+n≤512:=by have:=h.1.le; omega
 have SL:Hid (∀ W g,Below w.heap.size w W→IsLog0 W (· = g) g gd (Wl.head base n low)→Calls Tryz.prog 56 #[.pointer (some ⟨g,0,none⟩)] W fun e w'=>∃ v,e=.returned v∧w'.ownsRow W.heap.size 105 3 v n (slabsV (ringOf (Wl.head base n low) D n))∧Below W.heap.size W w'):=fun W g hW hlg=>slabs_any (h.below hW) hlg hgone hb
 have OK:=Lib.hid (Wl.Ok.opened (D:=D) h8 h64 hb5 hl hlm)
 have HRL:Hid ((ringOf (Wl.head base n low) D n).length=n):=by unfold Hid ringOf; simp
 have HRM:Hid (∀ x ∈ ringOf (Wl.head base n low) D n,x.1 < 4294967296∧x.2.1 < 4294967296∧x.2.2.size≤112):=fun x hx=>ring_mem hx
 have HBS:=Lib.hid (Wl.opened_bodies D base n low)
 have hop:Wl.opened D base n low=⟨base,n,epochOf (ringOf (Wl.head base n low) D n),low,low+(wholeP 0 low (ringOf (Wl.head base n low) D n)).length,(wholeP 0 low (ringOf (Wl.head base n low) D n)).map recsOf⟩:=rfl
 have HOP:=Lib.hid hop
 have hwl:=wholeP_len 0 low (ringOf (Wl.head base n low) D n)
 rw [HRL.out] at hwl
 have hl1:¬ (low:Int) < 1:=by omega
 have hl2:(low:Int)≤16777216:=by omega
 have hn64:(n:Int)≤64:=by omega
 clear h hb hop hgone
 generalize hLL:ringOf (Wl.head base n low) D n=L at *
 clear hLL
 go_enter Tryz.func22,Tryz.ntmps22
 go_wp2_with fail
 refine H1.out.mono ?_
 rintro e w1 ⟨g,rfl,hl0,hg,hb1⟩
 have HB1:=Lib.hid hb1
 obtain ⟨_,vb0,r0⟩:=hl0
 clear hb1 H1
 go_wp2_with fail
 refine (DE.out _ HB1.out).mono ?_
 rintro e w2 ⟨rfl,rfl⟩
 have z4:=r0.head.frozen 4
 obtain ⟨_,_,_,_,c4,_,_⟩:=r0.cells
 have hgl:=r0.head.lt
 have r1:LogR (w1.setCell ⟨g,4,none⟩ (.int .i64 low)) (· = g) g gd (Wl.head base n low) vb0 (Wl.new base n).secs.length ((Wl.new base n).secs.map bodyS):=r0.setHead (l':=Wl.head base n low) (vb':=vb0) 4 _ rfl (fun b hb=>hb) (fun b hb=>by subst hb; exact hgl) r0.rows r0.fv
 have hb2:=HB1.out.setCell (p:=⟨g,4,none⟩) hg (.int .i64 (low:Int))
 have HB2:=Lib.hid hb2
 have R1:=Lib.hid r1
 have L1:Hid (IsLog0 (w1.setCell ⟨g,4,none⟩ (.int .i64 low)) (· = g) g gd (Wl.head base n low)):=⟨⟨h8,h64,hb5,by show low≤_; omega⟩,_,_,_,r1⟩
 clear r0 r1 hb2 HB1 DE hgl
 go_upto_region 9 with (fail)
 clear z4 c4
 generalize w1.setCell ⟨g,4,none⟩ (.int .i64 low)=w3 at *
 go_wp2_with fail
 refine (SL.out _ g HB2.out L1.out).mono ?_
 rintro e w4 ⟨vs,rfl,hos,hb4⟩
 rw [← HRL.out] at hos
 have hb34:=HB2.out.trans (hb4.mono HB2.out.size)
 have r4:=R1.out.below hb4
 have HB4:=Lib.hid hb34
 have R4:=Lib.hid r4
 have HOS:=Lib.hid (own_zero hos)
 obtain ⟨vsa,vsc,hvs⟩:=own_slice hos
 have hn0:0 < L.length:=by rw [HRL.out]; omega
 have hnl:L.length≤64:=by rw [HRL.out]; exact h64
 have hlmm:low≤2147483647:=by omega
 subst hvs
 have WH:Hid (∀ W,Below w4.heap.size w4 W→Calls Tryz.prog 57 #[.slice vsa L.length vsc,.int .i64 low] W (WholeOut W (wholeP 0 low L))):=fun W hW=>whole_any (own_below hos hW) hn0 hnl (fun x hx=>(HRM.out x hx).2.2) (fun x hx=>⟨(HRM.out x hx).1,(HRM.out x hx).2.1⟩) low hlmm
 clear hos hb4 hb34 r4 R1 L1 SL HB2 hlmm
 generalize hWW:wholeP 0 low L=bs at *
 have HWW:=Lib.hid hWW
 clear hWW
 go_wp2_with fail
 refine (WH.out _ (Below.refl _ _)).mono ?_
 rintro e w5 ⟨vb,rfl,hob,hb5'⟩
 have r5:=R4.out.below hb5'
 have z6:=r5.head.frozen 6
 have c6:=r5.head.cell 6
 simp [logCells] at c6
 have hgl:=r5.head.lt
 have hvbl:∀ b,vb.ownBlock=some b→w4.heap.size≤b∧b < w5.heap.size:=fun b hb=>hob.lt b hb
 have hg4:g < w4.heap.size:=R4.out.head.lt
 have hw4:w.heap.size≤w4.heap.size:=HB4.out.size
 have r6:LogR (w5.setCell ⟨g,6,none⟩ vb) (fun b=>b=g∨vb.ownBlock=some b) g gd (Wl.head base n low) vb bs.length bs :=
  r5.setHead (l':=Wl.head base n low) (vb':=vb) (F':=fun b=>b=g∨vb.ownBlock=some b) 6 vb rfl (fun b hb=>.inl hb) (fun b hb=>hb.elim (fun e=>e ▸ hgl) fun e=>(hvbl b e).2) (own_zero hob) (fun b hb=>.inr hb)
 have hfoot:∀ b,(b=g∨vb.ownBlock=some b)→w.heap.size≤b:=fun b hb=>by
  rcases hb with rfl | hb
  · exact hg
  · have:=(hvbl b hb).1; omega
 have hb56:=(HB4.out.trans (hb5'.mono HB4.out.size)).setCell (p:=⟨g,6,none⟩) hg vb
 have hos6:(w5.setCell ⟨g,6,none⟩ vb).ownsRow 0 105 3 (.slice vsa L.length vsc) L.length (slabsV L) :=
  own_keep (own_below HOS.out hb5') fun b hb=>heap_setCell_other w5 ⟨g,6,none⟩ b vb fun e=>own_blk (own_below HOS.out hb5') r5.head (by decide) (by rw [hb,e])
 have R6:=Lib.hid r6
 have HB6:=Lib.hid hb56
 have HOS6:=Lib.hid hos6
 have HFOOT:=Lib.hid hfoot
 clear r5 r6 hb56 hos6 hb5' hob R4 HB4 HOS WH hvbl hg4 hw4 hfoot hgl
 obtain ⟨vba,vbc,hvb⟩:=own_slice R6.out.rows
 subst hvb
 go_upto_region 11 with (fail)
 clear z6 c6
 generalize w5.setCell ⟨g,6,none⟩ (.slice vba bs.length vbc)=w6 at *
 have c66:=R6.out.head.cell 6
 simp [logCells] at c66
 have c65:=R6.out.head.cell 5
 simp [logCells] at c65
 have z65:=R6.out.head.frozen 5
 have hbn:(bs.length:Int)≤64:=by omega
 have r7:LogR (w6.setCell ⟨g,5,none⟩ (.int .i64 (low+bs.length:Nat))) _ g gd { Wl.head base n low with first:=low+bs.length } (.slice vba bs.length vbc) bs.length bs :=
  R6.out.setHead (l':={ Wl.head base n low with first:=low+bs.length }) (vb':=.slice vba bs.length vbc) 5 _ rfl (fun b hb=>hb) R6.out.lt R6.out.rows R6.out.fv
 have hb7:=HB6.out.setCell (p:=⟨g,5,none⟩) hg (.int .i64 ((low+bs.length:Nat):Int))
 have hos7:(w6.setCell ⟨g,5,none⟩ (.int .i64 (low+bs.length:Nat))).ownsRow 0 105 3 (.slice vsa L.length vsc) L.length (slabsV L) :=
  own_keep HOS6.out fun b hb=>heap_setCell_other w6 ⟨g,5,none⟩ b _ fun e=>own_blk HOS6.out R6.out.head (by decide) (by rw [hb,e])
 have hcast:((low+bs.length:Nat):Int)=(low:Int)+(bs.length:Int):=by omega
 rw [hcast] at r7 hb7 hos7
 have R7:=Lib.hid r7
 have HB7:=Lib.hid hb7
 have HOS7:=Lib.hid hos7
 clear r7 hb7 hos7 hcast R6 HB6 HOS6
 go_upto_region 12 with (fail)
 clear c66 c65 z65
 generalize w6.setCell ⟨g,5,none⟩ (.int .i64 ((low:Int)+(bs.length:Int)))=w7 at *
 obtain ⟨gs,caps,hvs,_,_⟩:=own_form HOS7.out hn0
 cases hvs
 have hli:(L.length:Int)≤64:=by omega
 go_wp2_with fail
 go_loopw [60] (fun vk wr=>∃ k:Nat,vk=.int .i64 k∧k≤L.length∧LogR wr (fun b=>b=g∨(Value.slice vba bs.length vbc).ownBlock=some b) g gd { Wl.head base n low with first:=low+bs.length,epoch:=epochOf (L.take k) } (.slice vba bs.length vbc) bs.length bs ∧
  wr.ownsRow 0 105 3 (.slice (some ⟨gs,0,none⟩) L.length vsc) L.length (slabsV L)∧Below w.heap.size w wr) (fun vk _=>L.length - (intOf vk).toNat)
 case atStart=>exact ⟨0,rfl,Nat.zero_le _,R7.out,HOS7.out,HB7.out⟩
 case round =>
  obtain ⟨k,rfl,hk,hr,ho,hB⟩:=hrel
  have RR:=Lib.hid hr
  have HO:=Lib.hid ho
  have HB:=Lib.hid hB
  clear hr ho hB R7 HOS7 HB7
  by_cases hlt:k < L.length
  ·obtain ⟨e0,e1,e2⟩:=slabsV_at L k hlt
   have htk:L.take (k+1)=L.take k++[L[k]]:=List.take_succ_eq_append_getElem hlt
   have hepn:epochOf (L.take (k+1))=max (epochOf (L.take k)) (L[k].1+1):=by rw [htk,epochOf_snoc]
   have hub:=(HRM.out L[k] (List.getElem_mem hlt)).1
   have hE:=epochOf_le (L:=L.take k) fun x hx=>(HRM.out x (List.mem_of_mem_take hx)).1
   have RANGE:Hid (wr.rangeAt gs (k*3) [.int .u32 L[k].1,.int .u32 L[k].2.1,.string L[k].2.2]):=fun j u hj=>by
    match j,hj with
    | 0,hj=>simp at hj; subst hj; rw [Nat.add_zero,HO.out.cellAt _ (by omega)]; exact e0
    | 1,hj=>simp at hj; subst hj; rw [HO.out.cellAt _ (by omega)]; exact e1
    | 2,hj=>simp at hj; subst hj; rw [HO.out.cellAt _ (by omega)]; exact e2
    | j+3,hj=>simp at hj
   have HEPN:=Lib.hid hepn
   clear htk hepn e0 e1 e2
   generalize L[k]=x at *
   obtain ⟨ep,ix,bd⟩:=x
   simp only at hub RANGE HEPN
   have hn:=Blk.new wr 105 #[.int .u32 0,.int .u32 0,.string ⟨#[]⟩]
   have N3:=hn.setRow #[.int .u32 (ep:Int),.int .u32 (ix:Int),.string bd]
   have hb3:Below wr.heap.size wr ((wr.alloc (.cells #[.int .u32 0,.int .u32 0,.string ⟨#[]⟩] 105)).setRow wr.heap.size #[.int .u32 (ep:Int),.int .u32 (ix:Int),.string bd]):=below_setRow ((Below.refl _ _).alloc (Nat.le_refl _) _) (Nat.le_refl _) _
   have RR3:=Lib.hid (RR.out.below hb3)
   have HO3:=Lib.hid (own_below HO.out hb3)
   have HB3:=Lib.hid (below2 HB.out hb3)
   have hki:(k:Int) < L.length:=by omega
   go_upto_region 15 with (first
    | (refine wpList_load_mid rfl 105 _ rfl gs (k*3) rfl [.int .u32 (ep:Int),.int .u32 (ix:Int),.string bd] _ RANGE.out Tryz.underlying105 rfl (by kernel_rfl) ?_)
    | (refine wpList_store_row rfl 105 _ _ rfl wr.heap.size _ rfl rfl 105 _ hn (by kernel_rfl) rfl (by simp [Value.oneCell']) ?_))
   clear hn hb3 RR HO HB RANGE
   change Code.wp _ _ _ _ ((wr.alloc (.cells #[.int .u32 0,.int .u32 0,.string ⟨#[]⟩] 105)).setRow wr.heap.size #[.int .u32 (ep:Int),.int .u32 (ix:Int),.string bd])
   generalize (wr.alloc (.cells #[.int .u32 0,.int .u32 0,.string ⟨#[]⟩] 105)).setRow wr.heap.size #[.int .u32 (ep:Int),.int .u32 (ix:Int),.string bd]=w9 at *
   generalize wr.heap.size=y at *
   have d0:=N3.cell 0
   simp at d0
   have c3:=RR3.out.head.cell 3
   simp [logCells] at c3
   have z3:=RR3.out.head.frozen 3
   have r10:LogR (w9.drew.setCell ⟨g,3,none⟩ (.int .i64 (epochOf (L.take (k+1)):Nat))) _ g gd { Wl.head base n low with first:=low+bs.length,epoch:=epochOf (L.take (k+1)) } (.slice vba bs.length vbc) bs.length bs :=
    RR3.out.drew.setHead (l':={ Wl.head base n low with first:=low+bs.length,epoch:=epochOf (L.take (k+1)) }) (vb':=.slice vba bs.length vbc) 3 _ rfl (fun b hb=>hb) RR3.out.drew.lt RR3.out.drew.rows RR3.out.drew.fv
   have hb10:=HB3.out.drew.setCell (p:=⟨g,3,none⟩) hg (.int .i64 (epochOf (L.take (k+1)):Nat))
   have hos10:(w9.drew.setCell ⟨g,3,none⟩ (.int .i64 (epochOf (L.take (k+1)):Nat))).ownsRow 0 105 3 (.slice (some ⟨gs,0,none⟩) L.length vsc) L.length (slabsV L) :=
    own_keep HO3.out fun b hb=>heap_setCell_other w9.drew ⟨g,3,none⟩ b _ fun e=>own_blk HO3.out RR3.out.head (by decide) (by rw [hb,e])
   have R10:=Lib.hid r10
   have HB10:=Lib.hid hb10
   have HOS10:=Lib.hid hos10
   have hep32:(ep:Int) < 4294967296:=by omega
   have hE1:(epochOf (L.take k):Int)≤4294967296:=by omega
   have hw1:IntKind.i64.wrap (ep:Int)=(ep:Int):=IntWalk.i64_in _ (by omega)
   have hw2:IntKind.i64.wrap ((ep:Int)+1)=(ep:Int)+1:=IntWalk.i64_in _ (by omega)
   have hmax:(if (epochOf (L.take k):Int) < (ep:Int)+1 then (ep:Int)+1 else (epochOf (L.take k):Int))=((epochOf (L.take (k+1)):Nat):Int):=by
    rw [HEPN.out]
    split <;> omega
   have HMAX:=Lib.hid hmax
   clear r10 hb10 hos10 RR3 HO3 HB3 N3 hep32 hE1 hub hE hmax
   go_still_tail 12,(by kernel_rfl)
   rw [HMAX.out]
   change wpList _ _ _ _ _ w9.drew
   go_wp2
   go_roundw
   case rel=>exact ⟨k+1,by go_num,by omega,R10.out,HOS10.out,HB10.out⟩
   case measure=>simp [intOf]; omega
  ·obtain rfl:k=L.length:=by omega
   have hfin:IsLog wr (fun b=>b=g∨(Value.slice vba bs.length vbc).ownBlock=some b) g gd (Wl.opened D base n low):=by
    refine ⟨OK.out,.slice vba bs.length vbc,?_⟩
    have hr:=RR.out
    rw [List.take_length] at hr
    have hlen:(Wl.opened D base n low).secs.length=bs.length:=by rw [HOP.out]; simp
    refine ⟨?_,?_,hr.fg,hr.fv,hr.lt⟩
    ·have e:logCells gd (Wl.opened D base n low) (.slice vba bs.length vbc)=logCells gd { Wl.head base n low with first:=low+bs.length,epoch:=epochOf L } (.slice vba bs.length vbc):=by rw [HOP.out]; rfl
     rw [e]; exact hr.head
    · rw [hlen,HBS.out]; exact hr.rows
   have FIN:=Lib.hid hfin
   clear hfin RR HO
   go_wp2
   go_ret2
   exact ⟨g,_,rfl,FIN.out,HFOOT.out,HB.out⟩
end
end Go.Proofs.YthkbcfhjmnpggaaGreat

namespace Go.Proofs.YthkbcfhjmnpggaaGreat
open Go.RowKit
theorem whole_cut:∀ (L:List Slab3) (a i:Nat),∃ a',(a' = a∨∃ x ∈ L,x.1=a')∧wholeP a' (i+(wholeP a i L).length) (L.drop (wholeP a i L).length) = [] ∧
 ∀ L',L'.take (wholeP a i L).length=L.take (wholeP a i L).length→wholeP a i L' = wholeP a i L++wholeP a' (i+(wholeP a i L).length) (L'.drop (wholeP a i L).length)
 | [],a,i=>⟨a,.inl rfl,by simp [wholeP],fun L' _=>by simp [wholeP]⟩
 | x::L,a,i=>by
   by_cases hc:x.2.1=i∧x.2.2.size≠0∧(allS x.2.2).isSome=true∧a≤x.1
   ·obtain ⟨h1,h2,h3,h4⟩:=hc
    rw [wholeP_go h1 h2 h3 h4]
    obtain ⟨a',e1,e2,e3⟩:=whole_cut L x.1 (i+1)
    refine ⟨a',?_,?_,?_⟩
    ·rcases e1 with rfl | ⟨y,hy,e⟩
     · exact .inr ⟨x,by simp,rfl⟩
     · exact .inr ⟨y,by simp [hy],e⟩
    ·rw [List.length_cons,List.drop_succ_cons,show i+((wholeP x.1 (i+1) L).length+1)=i+1+(wholeP x.1 (i+1) L).length by omega]
     exact e2
    ·intro L' h
     rw [List.length_cons,List.take_succ_cons] at h
     cases L' with
     | nil=>simp at h
     | cons y L' =>
       rw [List.take_succ_cons] at h
       obtain ⟨rfl,h⟩:=List.cons.inj h
       rw [wholeP_go h1 h2 h3 h4,e3 L' h,List.length_cons,List.drop_succ_cons,show i+((wholeP y.1 (i+1) L).length+1)=i+1+(wholeP y.1 (i+1) L).length by omega]
       rfl
   ·rw [wholeP_stop hc]
    exact ⟨a,.inl rfl,by simpa using wholeP_stop hc,fun L' _=>by simp⟩
def Mix (E:Nat) (full:Prop):Nat→List ByteArray→List Slab3→List Slab3→Prop
 | _,[],T,T'=>T' = T
 | k,b::bs,x::T,y::T'=>(y=(E,k,b)∨(¬ full∧(y=x∨y=(0,0,⟨#[]⟩))))∧Mix E full (k+1) bs T T'
 | _,_::_,_,_=>False
theorem mix_whole {E:Nat} {full:Prop}:∀ (k a:Nat) (bs:List ByteArray) (T T':List Slab3),Mix E full k bs T T'→a≤E→(∀ x ∈ T,x.1 < E)→wholeP a k T = []→(∀ b ∈ bs,b.size≠0∧(allS b).isSome=true) →
 ∃ r,r≤bs.length∧(full→r=bs.length)∧wholeP a k T' = bs.take r
 | k,a,[],T,T',h,_,_,h3,_=>⟨0,Nat.le_refl _,fun _=>rfl,by rw [show T' = T from h,h3]; rfl⟩
 | k,a,b::bs,[],_,h,_,_,_,_=>by simp [Mix] at h
 | k,a,b::bs,x::T,[],h,_,_,_,_=>by simp [Mix] at h
 | k,a,b::bs,x::T,y::T',h,h1,h2,h3,h4=>by
   obtain ⟨hy,hm⟩:=h
   rcases hy with rfl | ⟨hf,rfl | rfl⟩
   ·have hb:=h4 b (by simp)
    have hT:wholeP E (k+1) T = []:=by
     cases T with
     | nil=>rfl
     | cons z T=>exact wholeP_stop fun hc=>by have:=h2 z (by simp); have:=hc.2.2.2; omega
    obtain ⟨r,r1,r2,r3⟩:=mix_whole (k+1) E bs T T' hm (Nat.le_refl _) (fun z hz=>h2 z (by simp [hz])) hT fun b' hb'=>h4 b' (by simp [hb'])
    refine ⟨r+1,by simpa using r1,fun hf=>by simpa using r2 hf,?_⟩
    rw [wholeP_go (x:=(E,k,b)) rfl hb.1 hb.2 h1,List.take_succ_cons,← r3]
   ·refine ⟨0,Nat.zero_le _,fun h=>absurd h hf,?_⟩
    have:¬ (y.2.1=k∧y.2.2.size≠0∧(allS y.2.2).isSome=true∧a≤y.1):=fun hc=>by
     rw [wholeP_go hc.1 hc.2.1 hc.2.2.1 hc.2.2.2] at h3
     cases h3
    rw [wholeP_stop this]
    rfl
   ·refine ⟨0,Nat.zero_le _,fun h=>absurd h hf,?_⟩
    rw [wholeP_stop fun hc=>hc.2.1 rfl]
    rfl
theorem mix_of {E:Nat} {full:Prop}:∀ (k:Nat) (bs:List ByteArray) (T T':List Slab3),T'.length=T.length→bs.length≤T.length →
 (∀ i,∀ (h1:i < bs.length) (h2:i < T.length) (h3:i < T'.length),T'[i]=(E,k+i,bs[i])∨(¬ full∧(T'[i]=T[i]∨T'[i]=(0,0,⟨#[]⟩)))) →
 (∀ i,bs.length≤i→∀ (h2:i < T.length) (h3:i < T'.length),T'[i]=T[i])→Mix E full k bs T T'
 | k,[],T,T',h1,_,_,h4=>List.ext_getElem h1 fun i h2 h3=>h4 i (Nat.zero_le _) h3 h2
 | k,b::bs,[],T',h1,h2,_,_=>by simp at h2
 | k,b::bs,x::T,[],h1,h2,_,_=>by simp at h1
 | k,b::bs,x::T,y::T',h1,h2,h3,h4=>by
   refine ⟨h3 0 (by simp) (by simp) (by simp),mix_of (k+1) bs T T' (by simpa using h1) (by simpa using h2) (fun i g1 g2 g3=>?_) fun i g1 g2 g3=>?_⟩
   ·have:=h3 (i+1) (by simpa using g1) (by simpa using g2) (by simpa using g3)
    simp only [List.getElem_cons_succ] at this
    rw [show k+1+i=k+(i+1) by omega]
    exact this
   · exact h4 (i+1) (by simpa using g1) (by simpa using g2) (by simpa using g3)
theorem mix_le {E:Nat} {full:Prop}:∀ (k:Nat) (bs:List ByteArray) (T T':List Slab3),Mix E full k bs T T'→(∀ x ∈ T,x.1 < E)→∀ y ∈ T',y.1≤E
 | k,[],T,T',h,h2,y,hy=>by rw [show T' = T from h] at hy; exact Nat.le_of_lt (h2 y hy)
 | k,b::bs,[],_,h,_,_,_=>by simp [Mix] at h
 | k,b::bs,x::T,[],h,_,_,_=>by simp [Mix] at h
 | k,b::bs,x::T,z::T',h,h2,y,hy=>by
   obtain ⟨hz,hm⟩:=h
   rcases List.mem_cons.1 hy with rfl | hy
   ·rcases hz with rfl | ⟨_,rfl | rfl⟩
    · exact Nat.le_refl _
    · exact Nat.le_of_lt (h2 y (by simp))
    · exact Nat.zero_le _
   · exact mix_le (k+1) bs T T' hm (fun x hx=>h2 x (by simp [hx])) y hy
theorem mix_lt {E:Nat} {full:Prop}:∀ (k:Nat) (bs:List ByteArray) (T T':List Slab3),Mix E full k bs T T'→(∀ x ∈ T,x.1 < E)→∀ y ∈ T'.drop bs.length,y.1 < E
 | k,[],T,T',h,h2,y,hy=>by rw [show T' = T from h] at hy; exact h2 y (by simpa using hy)
 | k,b::bs,[],_,h,_,_,_=>by simp [Mix] at h
 | k,b::bs,x::T,[],h,_,_,_=>by simp [Mix] at h
 | k,b::bs,x::T,z::T',h,h2,y,hy=>by
   rw [List.length_cons,List.drop_succ_cons] at hy
   exact mix_lt (k+1) bs T T' h.2 (fun x hx=>h2 x (by simp [hx])) y hy
noncomputable def sec3 (s:List ByteArray) (base n q:Nat):Slab3:=slab3 (s.getD (base+q % n) zero128)
noncomputable def ring3 (s:List ByteArray) (base n:Nat):List Slab3:=(List.range n).map fun i=>sec3 s base n (1+i)
theorem ring3_len (s:List ByteArray) (base n:Nat):(ring3 s base n).length=n:=by simp [ring3]
theorem ring3_at {s:List ByteArray} {base n i:Nat} (h:i < (ring3 s base n).length):(ring3 s base n)[i]=sec3 s base n (1+i):=by simp [ring3]
theorem zero_slab3:slab3 zero128=(0,0,⟨#[]⟩):=by
 unfold slab3
 rw [if_neg]
 exact zeros_not
theorem packed_slab3 {E k:Nat} {b:ByteArray} (hE:E < 4294967296) (hk:k < 4294967296) (hb:b.size≤112):slab3 (packed E k b)=(E,k,b):=by
 unfold slab3
 rw [if_pos (isSlab_packed hE hk hb),partE_packed hE hb,partI_packed hk hb,partB_packed hb]
theorem place_inj {n q q':Nat} (h1:1≤q) (h2:q≤n) (h1':1≤q') (h2':q'≤n) (h:q % n=q' % n):q=q':=by
 rcases Nat.lt_or_eq_of_le h2 with g | g
 ·rcases Nat.lt_or_eq_of_le h2' with g' | g'
  · rw [Nat.mod_eq_of_lt g,Nat.mod_eq_of_lt g'] at h; exact h
  · subst g'; rw [Nat.mod_self,Nat.mod_eq_of_lt g] at h; omega
 ·subst g
  rcases Nat.lt_or_eq_of_le h2' with g' | g'
  · rw [Nat.mod_self,Nat.mod_eq_of_lt g'] at h; omega
  · omega
structure Stands (D:Dk) (l:Wl):Prop where
 low:l.low=1
 room:l.base+l.size≤D.safe.length
 waits:D.waits = []
 gone:D.gone=false
 whole:wholeP 0 1 (ring3 D.safe l.base l.size)=(l.secs.take (l.first - 1)).map bodyS
 le:∀ x ∈ ring3 D.safe l.base l.size,x.1≤l.epoch
 lt:∀ x ∈ (ring3 D.safe l.base l.size).drop (l.first - 1),x.1 < l.epoch
namespace Stands
variable {D:Dk} {l:Wl}
theorem new {n base k:Nat} (hr:base+k≤n):Stands (Dk.new n) (Wl.new base k):=by
 have hz:∀ x ∈ ring3 (Dk.new n).safe base k,x=(0,0,⟨#[]⟩):=fun x hx=>by
  unfold ring3 at hx
  obtain ⟨i,_,rfl⟩:=List.mem_map.1 hx
  unfold sec3
  rw [show (Dk.new n).safe.getD (base+(1+i) % k) zero128=zero128 by
   unfold Dk.new
   rw [List.getD_eq_getElem?_getD,List.getElem?_replicate]
   split <;> rfl]
  exact zero_slab3
 refine ⟨rfl,by simpa [Dk.new,Wl.new] using hr,rfl,rfl,?_,fun x hx=>?_,fun x hx=>?_⟩
 ·show wholeP 0 1 (ring3 (Dk.new n).safe base k) = []
  cases hL:ring3 (Dk.new n).safe base k with
  | nil=>rfl
  | cons x L =>
    rw [hz x (by rw [hL]; simp)]
    exact wholeP_stop fun hc=>hc.2.1 rfl
 · rw [hz x hx]; exact Nat.zero_le _
 · rw [hz x (List.mem_of_mem_drop hx)]; exact Nat.one_pos
theorem put (h:Stands D l) (ok:l.Ok) (r:Rc):Stands D (l.put r):=by
 have h1:=ok.fl
 have h2:=ok.fe
 rw [h.low] at h1
 have hl:=h.low
 unfold Wl.end_ at h2
 rw [hl] at h2
 have key:(l.put r).low=l.low∧(l.put r).base=l.base∧(l.put r).size=l.size∧(l.put r).epoch=l.epoch∧(l.put r).first=l.first∧(l.put r).secs.take (l.first - 1)=l.secs.take (l.first - 1):=by
  unfold Wl.put
  split
  ·rename_i hj
   refine ⟨rfl,rfl,rfl,rfl,rfl,?_⟩
   have hlt:=hj.1
   unfold Wl.end_ at hlt
   rw [hl] at hlt
   simp only
   rw [List.take_append_of_le_length (by rw [List.length_dropLast]; omega),List.dropLast_eq_take,List.take_take]
   congr 1
   omega
  ·split
   · exact ⟨rfl,rfl,rfl,rfl,rfl,List.take_append_of_le_length (by omega)⟩
   · exact ⟨rfl,rfl,rfl,rfl,rfl,rfl⟩
 obtain ⟨k1,k2,k3,k4,k5,k6⟩:=key
 refine ⟨by rw [k1,hl],by rw [k2,k3]; exact h.room,h.waits,h.gone,?_,?_,?_⟩
 · rw [k2,k3,k5,k6]; exact h.whole
 · rw [k2,k3,k4]; exact h.le
 · rw [k2,k3,k4,k5]; exact h.lt
end Stands
def Wl.pairs (l:Wl) (f j:Nat):List (Nat × ByteArray):=(List.range' f j).map fun q=>(l.place q,l.sector q)
theorem Wl.pairs_cons (l:Wl) (f j:Nat):l.pairs f (j+1)=(l.place f,l.sector f)::l.pairs (f+1) j:=by simp [Wl.pairs,List.range'_succ]
theorem writes_is (l:Wl):∀ (c:Nat) (D:Dk) (f:Nat),D.gone=false→(∀ q,f≤q→q < f+c→l.place q < D.safe.length∧(l.sector q).size=128) →
 ∃ j,j≤c∧(l.writes D f c).1.safe=D.safe∧(l.writes D f c).1.waits=D.waits++l.pairs f j∧((l.writes D f c).2=0→j=c∧(l.writes D f c).1.gone=false)∧(D.fuse=none→(l.writes D f c).1.fuse=none∧(l.writes D f c).2=0)
 | 0,D,f,hg,_=>⟨0,Nat.le_refl _,rfl,by simp [Wl.pairs,Wl.writes],fun _=>⟨rfl,hg⟩,fun h=>⟨h,rfl⟩⟩
 | c+1,D,f,hg,hq=>by
   obtain ⟨h1,h2⟩:=hq f (Nat.le_refl _) (by omega)
   have has:D.has ((l.place f:Nat):Int):=⟨by omega,by omega⟩
   by_cases hb:D.bears=true
   ·have e0:D.writeE (l.place f) (l.sector f)=0:=by unfold Dk.writeE; rw [if_pos has,if_pos h2,if_pos hb]
    have e1:D.write (l.place f) (l.sector f) = { D.burn with waits:=D.waits++[(l.place f,l.sector f)] }:=by unfold Dk.write; rw [if_pos has,if_pos h2,if_pos hb]; rfl
    have e2:l.writes D f (c+1)=l.writes (D.write (l.place f) (l.sector f)) (f+1) c:=by rw [Wl.writes,if_pos e0]
    have hs:(D.write (l.place f) (l.sector f)).safe=D.safe:=by rw [e1]; exact Dk.burn_safe D
    have hgone:(D.write (l.place f) (l.sector f)).gone=false:=by rw [e1]; show D.burn.gone=false; unfold Dk.burn; rw [if_pos hb]; exact hg
    obtain ⟨j,j1,j2,j3,j4,j5⟩:=writes_is l c (D.write (l.place f) (l.sector f)) (f+1) hgone fun q q1 q2=>by rw [hs]; exact hq q (by omega) (by omega)
    refine ⟨j+1,by omega,by rw [e2,j2,hs],?_,fun h=>?_,fun h=>?_⟩
    · rw [e2,j3,Wl.pairs_cons,e1]; simp
    ·rw [e2] at h ⊢
     obtain ⟨q1,q2⟩:=j4 h
     exact ⟨by omega,q2⟩
    ·rw [e2]
     refine j5 ?_
     rw [e1]
     show D.burn.fuse=none
     unfold Dk.burn
     rw [if_pos hb,h]
     rfl
   ·have e0:D.writeE (l.place f) (l.sector f)=4:=by unfold Dk.writeE; rw [if_pos has,if_pos h2,if_neg hb]
    have e1:D.write (l.place f) (l.sector f)=D.burn:=by unfold Dk.write; rw [if_pos has,if_pos h2,if_neg hb]
    have e2:l.writes D f (c+1)=(D.burn,4):=by rw [Wl.writes,if_neg (by rw [e0]; decide),e0,e1]
    refine ⟨0,Nat.zero_le _,by rw [e2]; exact Dk.burn_safe D,by rw [e2]; simp [Wl.pairs,Dk.burn_waits],fun h=>?_,fun h=>?_⟩
    · rw [e2] at h; cases h
    · exact absurd (show D.bears=true by unfold Dk.bears; rw [hg,h]; rfl) hb
theorem settle_sec (l:Wl) (f j:Nat) (ft:Nat→Nat) (s:List ByteArray) (hs:l.base+l.size≤s.length) (hf:1≤f) (hj:f+j≤l.size+1) (q:Nat) (h1:1≤q) (h2:q≤l.size):∀ k,k≤j →
 (settleTo ft (l.pairs f j) s k).getD (l.base+q % l.size) zero128=if f≤q∧q < f+k then (if ft (q - f)=1 then l.sector q else if ft (q - f)=2 then zero128 else s.getD (l.base+q % l.size) zero128) else s.getD (l.base+q % l.size) zero128
 | 0,_=>by rw [if_neg (by omega)]; rfl
 | k+1,hk=>by
   have hlen:(l.pairs f j).length=j:=by simp [Wl.pairs]
   have hget:(l.pairs f j)[k]'(by omega)=(l.place (f+k),l.sector (f+k)):=by simp [Wl.pairs]
   have ih:=settle_sec l f j ft s hs hf hj q h1 h2 k (by omega)
   have hpq:l.base+q % l.size < (settleTo ft (l.pairs f j) s k).length:=by rw [settleTo_len]; have:=Nat.mod_lt q (show 0 < l.size by omega); omega
   rw [settleTo_succ _ _ _ _ (by omega),hget]
   by_cases hq:q=f+k
   ·subst hq
    rw [if_neg (by omega)] at ih
    rw [if_pos (by omega),Nat.add_sub_cancel_left]
    unfold settleOne Wl.place
    by_cases t1:ft k=1
    · rw [if_pos t1,if_pos t1,List.getD_eq_getElem?_getD,List.getElem?_set_self hpq]; rfl
    ·rw [if_neg t1,if_neg t1]
     by_cases t2:ft k=2
     · rw [if_pos t2,if_pos t2,List.getD_eq_getElem?_getD,List.getElem?_set_self hpq]; rfl
     · rw [if_neg t2,if_neg t2,ih]
   ·have hne:l.place (f+k)≠l.base+q % l.size:=fun e=>hq (place_inj h1 h2 (by omega) (by omega) (Nat.add_left_cancel (show l.base+q % l.size=l.base+(f+k) % l.size from e.symm)))
    have hset:∀ x,((settleTo ft (l.pairs f j) s k).set (l.place (f+k)) x).getD (l.base+q % l.size) zero128=(settleTo ft (l.pairs f j) s k).getD (l.base+q % l.size) zero128:=fun x=>by
     rw [List.getD_eq_getElem?_getD,List.getElem?_set_ne hne,← List.getD_eq_getElem?_getD]
    have:(settleOne (ft k) (l.place (f+k),l.sector (f+k)) (settleTo ft (l.pairs f j) s k)).getD (l.base+q % l.size) zero128=(settleTo ft (l.pairs f j) s k).getD (l.base+q % l.size) zero128:=by
     unfold settleOne
     split
     · exact hset _
     ·split
      · exact hset _
      · rfl
    rw [this,ih]
    by_cases hin:f≤q∧q < f+k
    ·have hin2:f≤q∧q < f+(k+1):=by omega
     rw [if_pos hin,if_pos hin2]
    ·have hin2:¬ (f≤q∧q < f+(k+1)):=by omega
     rw [if_neg hin,if_neg hin2]
end Go.Proofs.YthkbcfhjmnpggaaGreat

namespace Go.Proofs.YthkbcfhjmnpggaaGreat
open Go.RowKit
namespace Stands
variable {D:Dk} {l:Wl}
theorem bodies (ok:l.Ok) (i:Nat) (h:i < l.secs.length):(bodyS l.secs[i]).size≤112∧(bodyS l.secs[i]).size≠0∧(allS (bodyS l.secs[i])).isSome=true∧recsOf (bodyS l.secs[i])=l.secs[i]:=by
 obtain ⟨h1,h2,h3⟩:=ok.sec _ (List.getElem_mem h)
 refine ⟨by rw [bodyS_size]; exact h3,by rw [bodyS_size]; exact Nat.ne_of_gt (body_pos h2 h1),?_,recsOf_body h2⟩
 show (allL _ _ _).isSome=true
 rw [allS_body h2]; rfl
theorem sector_at (h:Stands D l) (i:Nat) (hi:i < l.secs.length):l.sector (1+i)=packed l.epoch (1+i) (bodyS l.secs[i]):=by
 unfold Wl.sector
 rw [h.low,Nat.add_sub_cancel_left,List.getD_eq_getElem?_getD,List.getElem?_eq_getElem hi]
 rfl
theorem first1 (h:Stands D l) (ok:l.Ok):1≤l.first∧l.first - 1≤l.secs.length∧l.end_=1+l.secs.length:=by
 have h1:=ok.fl
 have h2:=ok.fe
 unfold Wl.end_ at *
 rw [h.low] at *
 omega
theorem whole_len (h:Stands D l) (ok:l.Ok):(wholeP 0 1 (ring3 D.safe l.base l.size)).length=l.first - 1:=by
 obtain ⟨h1,h2,h3⟩:=h.first1 ok
 rw [h.whole,List.length_map,List.length_take]
 omega
theorem written (h:Stands D l) (ok:l.Ok) (hE:l.epoch < 4294967296) (j:Nat) (hj:l.first+j≤l.end_) (ft:Nat→Nat) (full:Prop) (hf:full→∀ t,t < j→ft t=1) :
 ∃ r,r≤j∧(full→r=j)∧wholeP 0 1 (ring3 (settleTo ft (l.pairs l.first j) D.safe j) l.base l.size)=(l.secs.take (l.first - 1+r)).map bodyS ∧
  (∀ x ∈ ring3 (settleTo ft (l.pairs l.first j) D.safe j) l.base l.size,x.1≤l.epoch)∧(∀ x ∈ (ring3 (settleTo ft (l.pairs l.first j) D.safe j) l.base l.size).drop (l.first - 1+j),x.1 < l.epoch):=by
 obtain ⟨f1,f2,f3⟩:=h.first1 ok
 have hsz:=ok.len
 have h64:=ok.s64
 have set:=fun (q:Nat) (q1:1≤q) (q2:q≤l.size)=>settle_sec l l.first j ft D.safe h.room f1 (by omega) q q1 q2 j (Nat.le_refl _)
 have hm:=h.whole_len ok
 generalize hs':settleTo ft (l.pairs l.first j) D.safe j=s' at *
 generalize hmm:l.first - 1=m at *
 have hfm:l.first=1+m:=by omega
 have hL:(ring3 D.safe l.base l.size).length=l.size:=ring3_len _ _ _
 have hL':(ring3 s' l.base l.size).length=l.size:=ring3_len _ _ _
 have old:∀ i,∀ (g:i < (ring3 s' l.base l.size).length) (g':i < (ring3 D.safe l.base l.size).length),¬ (m≤i∧i < m+j)→(ring3 s' l.base l.size)[i]=(ring3 D.safe l.base l.size)[i]:=fun i g g' hi=>by
  rw [ring3_at,ring3_at]
  unfold sec3
  rw [set (1+i) (by omega) (by omega),if_neg (by omega)]
 have htake:(ring3 s' l.base l.size).take m=(ring3 D.safe l.base l.size).take m:=by
  refine List.ext_getElem (by simp [hL,hL']) fun i g1 g2=>?_
  rw [List.length_take] at g1 g2
  rw [List.getElem_take,List.getElem_take]
  exact old i _ _ (by omega)
 let bs:=((l.secs.drop m).take j).map bodyS
 have hbs:bs.length=j:=by simp [bs]; omega
 have bat:∀ i,(g:i < j)→∀ g2:i < bs.length,bs[i]=bodyS (l.secs[m+i]'(by omega)):=fun i g g2=>by simp [bs]
 have hmix:Mix l.epoch full (1+m) bs ((ring3 D.safe l.base l.size).drop m) ((ring3 s' l.base l.size).drop m):=by
  refine mix_of (1+m) bs _ _ (by simp [hL,hL']) (by simp [hL,hbs]; omega) (fun i g1 g2 g3=>?_) fun i g1 g2 g3=>?_
  ·rw [List.length_drop] at g2 g3
   rw [List.getElem_drop,List.getElem_drop,ring3_at,ring3_at,bat i (by omega)]
   have hi:m+i < l.secs.length:=by omega
   obtain ⟨b1,b2,b3,b4⟩:=bodies ok (m+i) hi
   have hsec:=h.sector_at (m+i) hi
   have e:=set (1+(m+i)) (by omega) (by omega)
   rw [if_pos (by omega)] at e
   have e2:sec3 s' l.base l.size (1+(m+i))=slab3 (if ft (1+(m+i) - l.first)=1 then l.sector (1+(m+i)) else if ft (1+(m+i) - l.first)=2 then zero128 else D.safe.getD (l.base+(1+(m+i)) % l.size) zero128):=by
    unfold sec3; rw [e]
   rw [e2]
   by_cases t1:ft (1+(m+i) - l.first)=1
   ·rw [if_pos t1,hsec,packed_slab3 hE (by omega) b1]
    exact .inl (by rw [Nat.add_assoc])
   ·rw [if_neg t1]
    refine .inr ⟨fun hfull=>t1 (hf hfull _ (by omega)),?_⟩
    by_cases t2:ft (1+(m+i) - l.first)=2
    · rw [if_pos t2,zero_slab3]; exact .inr rfl
    · rw [if_neg t2]; exact .inl rfl
  ·rw [List.getElem_drop,List.getElem_drop]
   exact old (m+i) _ _ (by omega)
 have hlt:=h.lt
 rw [hmm] at hlt
 obtain ⟨a',e1,e2,e3⟩:=whole_cut (ring3 D.safe l.base l.size) 0 1
 rw [hm] at e2 e3
 have ha:a'≤l.epoch:=by
  rcases e1 with rfl | ⟨x,hx,rfl⟩
  · exact Nat.zero_le _
  · exact h.le x hx
 have hgood:∀ b ∈ bs,b.size≠0∧(allS b).isSome=true:=fun b hb=>by
  obtain ⟨i,hi,rfl⟩:=List.getElem_of_mem hb
  rw [bat i (by omega)]
  have:=bodies ok (m+i) (by omega)
  exact ⟨this.2.1,this.2.2.1⟩
 obtain ⟨r,r1,r2,r3⟩:=mix_whole (1+m) a' bs _ _ hmix ha hlt e2 hgood
 refine ⟨r,by omega,fun hfull=>by rw [r2 hfull,hbs],?_,fun x hx=>?_,fun x hx=>?_⟩
 ·rw [e3 _ htake,r3,h.whole,hmm]
  show (l.secs.take m).map bodyS++(((l.secs.drop m).take j).map bodyS).take r=_
  rw [← List.map_take,List.take_take,Nat.min_eq_left (by omega),← List.map_append,← List.take_add]
 ·rw [← List.take_append_drop m (ring3 s' l.base l.size)] at hx
  rcases List.mem_append.1 hx with hx | hx
  ·rw [htake] at hx
   exact h.le x (List.mem_of_mem_take hx)
  · exact mix_le _ _ _ _ hmix hlt x hx
 ·have:=mix_lt _ _ _ _ hmix hlt x
  rw [List.drop_drop,hbs] at this
  exact this hx
end Stands
theorem flush_shape {D:Dk} {l:Wl} (h:Stands D l) (ok:l.Ok) :
 ((l.flush D).2.2=0∧(l.flush D).2.1 = { l with first:=l.end_ }∧(l.flush D).1.waits = []∧(l.flush D).1.gone=false∧(l.flush D).1.safe=settleTo (fun _=>1) (l.pairs l.first (l.end_ - l.first)) D.safe (l.end_ - l.first)∧(D.fuse=none→(l.flush D).1.fuse=none)) ∨
 ((l.flush D).2.2≠0∧(l.flush D).2.1=l∧D.fuse≠none∧∃ j,l.first+j≤l.end_∧(l.flush D).1.safe=D.safe∧(l.flush D).1.waits=l.pairs l.first j):=by
 obtain ⟨f1,f2,f3⟩:=h.first1 ok
 have hfe:=ok.fe
 unfold Wl.flush
 by_cases he:l.end_=l.first
 ·rw [if_pos he]
  refine .inl ⟨rfl,by rw [he],h.waits,h.gone,?_,id⟩
  rw [he,Nat.sub_self]
  rfl
 ·rw [if_neg he]
  have hq:∀ q,l.first≤q→q < l.first+(l.end_ - l.first)→l.place q < D.safe.length∧(l.sector q).size=128:=fun q q1 q2=>by
   refine ⟨?_,?_⟩
   ·have:=h.room
    have:=Nat.mod_lt q (show 0 < l.size by have:=ok.s8; omega)
    unfold Wl.place
    omega
   ·have hi:q - 1 < l.secs.length:=by omega
    have:=h.sector_at (q - 1) hi
    rw [show 1+(q - 1)=q by omega] at this
    rw [this]
    exact packed_size (Stands.bodies ok _ hi).1
  obtain ⟨j,j1,j2,j3,j4,j5⟩:=writes_is l (l.end_ - l.first) D l.first h.gone hq
  rw [h.waits,List.nil_append] at j3
  generalize l.writes D l.first (l.end_ - l.first)=x at *
  by_cases hx:x.2≠0
  ·rw [if_pos hx]
   exact .inr ⟨hx,rfl,fun hn=>hx (j5 hn).2,j,by omega,j2,j3⟩
  ·rw [if_neg hx]
   have hx0:x.2=0:=Decidable.not_not.1 hx
   obtain ⟨rfl,hg⟩:=j4 hx0
   by_cases hb:x.1.bears=true
   ·have e0:x.1.syncE=0:=by unfold Dk.syncE; rw [if_pos hb]
    rw [if_neg (by rw [e0]; simp)]
    have e1:x.1.sync = { x.1.burn with safe:=x.1.settled fun _=>1,waits:=[] }:=by unfold Dk.sync; rw [if_pos hb]
    refine .inl ⟨rfl,rfl,by rw [e1],?_,?_,fun hn=>?_⟩
    · rw [e1]; show x.1.burn.gone=false; unfold Dk.burn; rw [if_pos hb]; exact hg
    ·rw [e1]
     show x.1.settled (fun _=>1)=_
     unfold Dk.settled
     rw [j2,j3]
     congr 1
     simp [Wl.pairs]
    ·rw [e1]
     show x.1.burn.fuse=none
     unfold Dk.burn
     rw [if_pos hb,(j5 hn).1]
     rfl
   ·have e0:x.1.syncE=4:=by unfold Dk.syncE; rw [if_neg hb]
    have e1:x.1.sync=x.1.burn:=by unfold Dk.sync; rw [if_neg hb]
    rw [if_pos (by rw [e0]; simp)]
    refine .inr ⟨by rw [e0]; simp,rfl,fun hn=>hb ?_,l.end_ - l.first,by omega,by rw [e1,Dk.burn_safe]; exact j2,by rw [e1,Dk.burn_waits]; exact j3⟩
    unfold Dk.bears
    rw [hg,(j5 hn).1]
    rfl
namespace Stands
variable {D:Dk} {l:Wl}
theorem flushed (h:Stands D l) (ok:l.Ok) (hE:l.epoch < 4294967296) (h0:(l.flush D).2.2=0):(l.flush D).2.1 = { l with first:=l.end_ }∧Stands (l.flush D).1 { l with first:=l.end_ }∧(D.fuse=none→(l.flush D).1.fuse=none)∧(l.flush D).1.safe.length=D.safe.length:=by
 obtain ⟨f1,f2,f3⟩:=h.first1 ok
 have hfe:=ok.fe
 rcases flush_shape h ok with ⟨_,h2,h3,h4,h5,h6⟩ | ⟨h1,_⟩
 ·obtain ⟨r,r1,r2,r3,r4,r5⟩:=h.written ok hE (l.end_ - l.first) (by omega) (fun _=>1) True fun _ _ _=>rfl
  have hr:=r2 trivial
  subst hr
  refine ⟨h2,⟨h.low,?_,h3,h4,?_,?_,?_⟩,h6,by rw [h5,settleTo_len]⟩
  · rw [h5,settleTo_len]; exact h.room
  ·rw [h5]
   show _=(l.secs.take (l.end_ - 1)).map bodyS
   rw [r3,show l.first - 1+(l.end_ - l.first)=l.end_ - 1 by omega]
  · rw [h5]; exact r4
  ·rw [h5]
   show ∀ x ∈ (ring3 _ l.base l.size).drop (l.end_ - 1),_
   rw [show l.end_ - 1=l.first - 1+(l.end_ - l.first) by omega]
   exact r5
 · exact absurd h0 h1
theorem flush_ok (h:Stands D l) (ok:l.Ok) (hn:D.fuse=none):(l.flush D).2.2=0:=by
 rcases flush_shape h ok with ⟨h1,_⟩ | ⟨_,_,h3,_⟩
 · exact h1
 · exact absurd hn h3
end Stands
end Go.Proofs.YthkbcfhjmnpggaaGreat
