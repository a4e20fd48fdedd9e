/- Texts that belong together, joined: RecC, RecD, TaA, RegionT. -/
import Derived.Test.YthkbcfhjmnpggaaGreatK03
import Derived.Lib.SliceRun
import Derived.Laws.Externs
import Derived.Shelf.SlMaps.Clone
import Derived.Test.YthkbcfhjmnpggaaGreatK02
namespace Go.Proofs.YthkbcfhjmnpggaaGreat
open Go.RowKit
structure Fill (w:World) (g q:Nat) (s:ByteArray) (l:List UInt8) (r:Rc) (vt vp:Value):Prop where
 rd:Rd w g s l
 row:Blk w q 46 (recCells r vt vp)
 ne:q≠g
abbrev Two (g q:Nat):Nat→Prop:=fun b=>b=g∨b=q
namespace Fill
variable {w w':World} {g q:Nat} {s:ByteArray} {l l':List UInt8} {r r':Rc} {vt vp:Value}
theorem took (h:Fill w g q s l r vt vp) (hr:Rd w' g s l') (ho:Only (· = g) w w'):Fill w' g q s l' r vt vp:=⟨hr,ho.blk h.row h.ne,h.ne⟩
theorem more (h:Fill w g q s l r vt vp) (hb:Below w.heap.size w w'):Fill w' g q s l r vt vp:=by
 obtain ⟨⟨k,h1,h2,h3,h4⟩,h5,h6⟩:=h
 exact ⟨⟨k,h1,h2,h3,h4.keep hb h4.lt⟩,h5.keep hb h5.lt,h6⟩
theorem drew (h:Fill w g q s l r vt vp):Fill w.drew g q s l r vt vp:=⟨h.rd,h.row,h.ne⟩
theorem grown (h:Fill w g q s l r vt vp) {row:Option Nat} (hg:w.grownBy w' row) (h1:row≠some g) (h2:row≠some q):Fill w' g q s l r vt vp:=by
 obtain ⟨⟨k,a,b,c,d⟩,h5,h6⟩:=h
 exact ⟨⟨k,a,b,c,(hg.block g d.lt (Ne.symm h1)).trans d⟩,(hg.block q h5.lt (Ne.symm h2)).trans h5,h6⟩
theorem set {vt' vp':Value} (h:Fill w g q s l r vt vp) (i:Nat) (v:Value) {cs:Array Value} (hc:(recCells r vt vp).setIfInBounds i v=cs) (hcs:cs=recCells r' vt' vp'):Fill (w.setCell ⟨q,i,none⟩ v) g q s l r' vt' vp':=by
 obtain ⟨k,h1,h2,h3,h4⟩:=h.rd
 refine ⟨⟨k,h1,h2,h3,h4.far (p:=⟨q,i,none⟩) (Ne.symm h.ne) v⟩,?_,h.ne⟩
 rw [← hcs,← hc]
 exact h.row.set i v
end Fill
theorem only2 {w w':World} {g q:Nat} (h:Only (· = g) w w'):Only (Two g q) w w':=h.widen fun _ hb=>.inl (.inl hb)
theorem only2set {w w':World} {g q:Nat} (h:Only (Two g q) w w') (i:Nat) (v:Value):Only (Two g q) w (w'.setCell ⟨q,i,none⟩ v):=h.set (p:=⟨q,i,none⟩) (.inl (.inr rfl)) v
def Filled (w:World) (g q:Nat) (s:ByteArray) (o:Option (Rc × List UInt8)) (vt vp:Value) (e:Ending) (w':World):Prop :=
 match o with
 | some (r,l)=>e=.returned (.tuple #[])∧Fill w' g q s l r vt vp∧Only (Two g q) w w'
 | none=>e=.panicked gaveUp∧Only (Two g q) w w'
set_option maxRecDepth 100000 in
set_option maxHeartbeats 4000000 in
theorem change_any {w:World} {g q:Nat} {s:ByteArray} {l:List UInt8} {r:Rc} {vt vp:Value} (h:Fill w g q s l r vt vp) (o:Option (Rc × List UInt8)) (ho:o=changeP r l) :
 Calls Tryz.prog 122 #[.pointer (some ⟨g,0,none⟩),.pointer (some ⟨q,0,none⟩)] w (Filled w g q s o vt vp):=by
 unfold changeP at ho
 have HO:=Lib.hid ho
 have H1:=Lib.hid (rdPage_any h.rd)
 have F0:=Lib.hid h
 clear ho h
 go_enter Tryz.func122,Tryz.ntmps122
 go_wp2_with fail
 refine H1.out.mono ?_
 intro e w1 ht
 rcases ht.int with ⟨hp,rfl,ho⟩ | ⟨pg,l1,hp,rfl,hr,ho⟩
 ·rw [hp] at HO
  obtain rfl:o=none:=HO.out
  have W:=Lib.hid (only2 (q:=q) ho)
  clear ho HO hp H1 F0 ht
  go_wp2
  exact ⟨rfl,rfl,W.out⟩
 have HO2:=HO.out
 rw [hp,Option.bind_some] at HO2
 dsimp only at HO2
 replace HO:=Lib.hid HO2
 have f1:=F0.out.took hr ho
 have c2:=f1.row.cell 2
 have z2:=f1.row.frozen 2
 simp [recCells] at c2
 have F1:=Lib.hid (f1.set 2 (.int .i64 pg) rfl (r':={ r with page:=pg }) rfl)
 have W1:=Lib.hid (only2set (only2 (q:=q) ho) 2 (.int .i64 pg))
 clear f1 ho hr F0 hp H1 ht HO2
 go_wp2_with fail
 generalize w1.setCell ⟨q,2,none⟩ (.int .i64 pg)=w2 at *
 clear c2 z2
 -- Off
 have H2:=Lib.hid (small_any F1.out.rd 0 219)
 refine H2.out.mono ?_
 intro e w3 ht
 rcases ht.int with ⟨hp,rfl,ho⟩ | ⟨of,l2,hp,rfl,hr,ho⟩
 ·rw [hp] at HO
  obtain rfl:o=none:=HO.out
  have W:=Lib.hid (W1.out.trans (only2 (q:=q) ho))
  clear ho HO hp H2 F1 ht
  go_wp2
  exact ⟨rfl,rfl,W.out⟩
 have HO2:=HO.out
 rw [hp,Option.bind_some] at HO2
 dsimp only at HO2
 replace HO:=Lib.hid HO2
 obtain ⟨_,b1,b2,_,_⟩:=smallP_some hp
 have f1:=F1.out.took hr ho
 have c2:=f1.row.cell 3
 have z2:=f1.row.frozen 3
 simp [recCells] at c2
 have f2:=f1.set 3 (.int .i64 of) rfl (r':={ r with page:=pg,off:=of }) rfl
 have W2:=Lib.hid (W1.out.trans (only2set (only2 (q:=q) ho) 3 (.int .i64 of)))
 clear f1 ho hr F1 hp H2 HO2 ht
 have c3:=f2.row.cell 3
 have F2:=Lib.hid f2
 simp [recCells] at c3
 clear f2
 go_wp2_with fail
 all_goals
  clear c2 z2
  generalize w3.setCell ⟨q,3,none⟩ (.int .i64 of)=w4 at *
  first | rw [show min (16:Int) (220 - of)=220 - of from by omega] at HO | rw [show min (16:Int) (220 - of)=16 from by omega] at HO
  have H3:=Lib.hid (fun hi=>small_any F2.out.rd 1 hi)
  refine (H3.out _).mono ?_
  intro e w5 ht
  rcases ht.int with ⟨hp,rfl,ho⟩ | ⟨n,l3,hp,rfl,hr,ho⟩
  ·rw [hp] at HO
   obtain rfl:o=none:=HO.out
   have W:=Lib.hid (W2.out.trans (only2 (q:=q) ho))
   clear ho HO hp H3 F2 ht
   go_wp2
   exact ⟨rfl,rfl,W.out⟩
  have HO2:=HO.out
  rw [hp,Option.bind_some] at HO2
  dsimp only at HO2
  obtain ⟨_,n1,n2,n3,n4⟩:=smallP_some hp
  obtain ⟨m,rfl⟩:=Int.eq_ofNat_of_zero_le n3
  rw [Int.toNat_natCast] at HO2
  replace HO:=Lib.hid HO2
  have f1:=F2.out.took hr ho
  have W3:=Lib.hid (W2.out.trans (only2 (q:=q) ho))
  have c0:=f1.row.cell 0
  simp [recCells] at c0
  have F3:=Lib.hid f1
  have H4:=Lib.hid (copied_any f1.rd m (by omega))
  clear f1 ho hr F2 hp H3 HO2 c3 ht
  by_cases hk:r.kind=1
  ·have hk':(r.kind == 1)=true:=by rw [hk]; rfl
   rw [if_pos hk] at HO
   have HK:=Lib.hid hk
   clear hk
   go_wp2_with fail
   refine H4.out.mono ?_
   intro e w6 ht
   rcases ht.str with ⟨hp,rfl,ho⟩ | ⟨bf,l4,hp,rfl,hr,ho⟩
   ·rw [hp] at HO
    obtain rfl:o=none:=HO.out
    have W:=Lib.hid (W3.out.trans (only2 (q:=q) ho))
    clear ho HO hp H4 F3 ht
    go_wp2
    exact ⟨rfl,rfl,W.out⟩
   have HO2:=HO.out
   rw [hp,Option.bind_some] at HO2
   dsimp only at HO2
   replace HO:=Lib.hid HO2
   have f1:=F3.out.took hr ho
   have c7:=f1.row.cell 7
   have z7:=f1.row.frozen 7
   simp [recCells] at c7
   have F4:=Lib.hid (f1.set 7 (.string bf) rfl (r':={ r with page:=pg,off:=of,before:=bf }) rfl)
   have W4:=Lib.hid (only2set (W3.out.trans (only2 (q:=q) ho)) 7 (.string bf))
   clear f1 ho hr F3 hp H4 ht HO2 c0
   go_wp2_with fail
   generalize w6.setCell ⟨q,7,none⟩ (.string bf)=w7 at *
   clear c7 z7
   refine (copied_any F4.out.rd m (by omega)).mono ?_
   intro e w8 ht
   rcases ht.str with ⟨hp,rfl,ho⟩ | ⟨af,l5,hp,rfl,hr,ho⟩
   ·rw [hp] at HO
    obtain rfl:o=none:=HO.out
    have W:=Lib.hid (W4.out.trans (only2 (q:=q) ho))
    clear ho HO hp F4 ht
    go_wp2
    exact ⟨rfl,rfl,W.out⟩
   have HO2:=HO.out
   rw [hp,Option.map_some] at HO2
   dsimp only at HO2
   have f1:=F4.out.took hr ho
   have c8:=f1.row.cell 8
   have z8:=f1.row.frozen 8
   simp [recCells] at c8
   have F5:=Lib.hid (f1.set 8 (.string af) rfl (r':={ r with page:=pg,off:=of,before:=bf,after:=af }) rfl)
   have W5:=Lib.hid (only2set (W4.out.trans (only2 (q:=q) ho)) 8 (.string af))
   subst HO2
   clear f1 ho hr F4 hp ht
   go_wp2
   go_end0
   exact ⟨rfl,F5.out,W5.out⟩
  ·have hk':(r.kind == 1)=false:=by rw [beq_eq_false_iff_ne]; exact hk
   rw [if_neg hk] at HO
   have HK:=Lib.hid hk
   clear hk
   go_wp2_with fail
   refine H4.out.mono ?_
   intro e w6 ht
   rcases ht.str with ⟨hp,rfl,ho⟩ | ⟨af,l4,hp,rfl,hr,ho⟩
   ·rw [hp] at HO
    obtain rfl:o=none:=HO.out
    have W:=Lib.hid (W3.out.trans (only2 (q:=q) ho))
    clear ho HO hp H4 F3 ht
    go_wp2
    exact ⟨rfl,rfl,W.out⟩
   have HO2:=HO.out
   rw [hp,Option.map_some] at HO2
   dsimp only at HO2
   have f1:=F3.out.took hr ho
   have c8:=f1.row.cell 8
   have z8:=f1.row.frozen 8
   simp [recCells] at c8
   have F4:=Lib.hid (f1.set 8 (.string af) rfl (r':={ r with page:=pg,off:=of,after:=af }) rfl)
   have W4:=Lib.hid (only2set (W3.out.trans (only2 (q:=q) ho)) 8 (.string af))
   subst HO2
   clear f1 ho hr F3 hp H4 ht
   go_wp2
   go_end0
   exact ⟨rfl,F4.out,W4.out⟩
end Go.Proofs.YthkbcfhjmnpggaaGreat

namespace Go.Proofs.YthkbcfhjmnpggaaGreat
open Go.RowKit
theorem info_txn:(Tryz.prog.info? 136).map (fun i=>(i.zero,i.size,i.bytes))=some (some (.agg #[.int .i64 0,.int .i64 0,.int .i64 0]),3,24):=by kernel_rfl
theorem info_page:(Tryz.prog.info? 138).map (fun i=>(i.zero,i.size,i.bytes))=some (some (.agg #[.int .i64 0,.int .i64 0]),2,16):=by kernel_rfl
theorem info_parts {e:TypeId} {z:Value} {a b:Nat} (h:(Tryz.prog.info? e).map (fun i=>(i.zero,i.size,i.bytes))=some (some z,a,b)):∃ i,Tryz.prog.info? e=some i∧i.zero=some z∧i.size=a∧i.bytes=b:=by
 obtain ⟨i,hi,he⟩:=Option.map_eq_some_iff.1 h
 simp only [Prod.mk.injEq] at he
 exact ⟨i,hi,he.1,he.2.1,he.2.2⟩
theorem own_reader {w:World} {g base size n:Nat} {e:TypeId} {s:ByteArray} {l:List UInt8} {v:Value} {xs:List Value} (h:w.ownsRow base e size v n xs) (hr:Rd w g s l) (hne:e≠167):∀ b,v.ownBlock=some b→¬ b=g:=by
 obtain ⟨k,_,_,_,h4⟩:=hr
 rintro b hv rfl
 exact own_blk h h4 hne hv
theorem pushed {w8 w9:World} {g q base size n i:Nat} {e:TypeId} {s:ByteArray} {l:List UInt8} {r:Rc} {vt vp vt' vp' v v':Value} {xs:List Value} (hf:Fill w8 g q s l r vt vp) (ho:w8.ownsRow base e size v n xs) {n':Nat} {xs':List Value}
 (hown:w9.ownsRow base e size v' n' xs') (hg:w8.grownBy w9 v.ownBlock) (h1:e≠167) (h2:e≠46) (hset:(recCells r vt vp).setIfInBounds i v' = recCells r vt' vp') :
 Fill (w9.setCell ⟨q,i,none⟩ v') g q s l r vt' vp'∧(w9.setCell ⟨q,i,none⟩ v').ownsRow base e size v' n' xs':=by
 have f9:=hf.grown hg (fun e=>own_reader ho hf.rd h1 g e rfl) (own_blk ho hf.row h2)
 have hne:=own_blk hown f9.row h2
 exact ⟨f9.set i v' hset rfl,own_keep hown fun b hb=>heap_setCell_other w9 ⟨q,i,none⟩ b _ (fun e=>hne (by rw [hb,e]))⟩
theorem pushedOnly {w w8 w9:World} {g q base size n i:Nat} {e:TypeId} {v v':Value} {xs:List Value} (hW:Only (Two g q) w w8) (ho:w8.ownsRow base e size v n xs) (hb:w.heap.size≤base) (hg:w8.grownBy w9 v.ownBlock):Only (Two g q) w (w9.setCell ⟨q,i,none⟩ v') :=
 only2set (hW.grown hg fun b hv=>.inr (Nat.le_trans hb (ho.lt b hv).1)) i v'
def FilledT (w:World) (g q:Nat) (s:ByteArray) (o:Option (Rc × List UInt8)) (e:Ending) (w':World):Prop :=
 match o with
 | some (r,l)=>e=.returned (.tuple #[])∧∃ vt vp,Fill w' g q s l r vt vp∧Lists w' r vt vp∧Only (Two g q) w w'∧New w vt∧New w vp
 | none=>e=.panicked gaveUp∧Only (Two g q) w w'
set_option maxRecDepth 100000 in
set_option maxHeartbeats 8000000 in
theorem tables_any {w:World} {g q:Nat} {s:ByteArray} {l:List UInt8} {r:Rc} (h:Fill w g q s l r (.slice none 0 0) (.slice none 0 0)) (o:Option (Rc × List UInt8)) (ho:o=tablesP r l) :
 Calls Tryz.prog 123 #[.pointer (some ⟨g,0,none⟩),.pointer (some ⟨q,0,none⟩)] w (FilledT w g q s o):=by
 unfold tablesP at ho
 have HO:=Lib.hid ho
 have H1:=Lib.hid (rdnum0 h.rd)
 have F0:=Lib.hid h
 obtain ⟨i3,hi3,z31,z32,z33⟩:=info_parts info_txn
 obtain ⟨i2,hi2,z21,z22,z23⟩:=info_parts info_page
 have I3:=Lib.hid (show _∧_∧_∧_ from ⟨hi3,z31,z32,z33⟩)
 have I2:=Lib.hid (show _∧_∧_∧_ from ⟨hi2,z21,z22,z23⟩)
 clear ho h hi3 z31 z32 z33 hi2 z21 z22 z23
 go_enter Tryz.func123,Tryz.ntmps123
 go_wp2_with fail
 refine H1.out.mono ?_
 intro e w1 ht
 rcases ht.int with ⟨hp,rfl,ho⟩ | ⟨bg,l1,hp,rfl,hr,ho⟩
 ·rw [hp] at HO
  obtain rfl:o=none:=HO.out
  have W:=Lib.hid (only2 (q:=q) ho)
  clear ho HO hp H1 F0 ht
  go_wp2
  exact ⟨rfl,rfl,W.out⟩
 have HO2:=HO.out
 rw [hp,Option.bind_some] at HO2
 dsimp only at HO2
 replace HO:=Lib.hid HO2
 have f1:=F0.out.took hr ho
 have c6:=f1.row.cell 6
 have z6:=f1.row.frozen 6
 simp [recCells] at c6
 have F1:=Lib.hid (f1.set 6 (.int .i64 bg) rfl (r':={ r with beg:=bg }) rfl)
 have W1:=Lib.hid (only2set (only2 (q:=q) ho) 6 (.int .i64 bg))
 clear f1 ho hr F0 hp H1 ht HO2
 go_wp2_with fail
 generalize w1.setCell ⟨q,6,none⟩ (.int .i64 bg)=w2 at *
 clear c6 z6
 have H2:=Lib.hid (small_any F1.out.rd 0 4)
 refine H2.out.mono ?_
 intro e w3 ht
 rcases ht.int with ⟨hp,rfl,ho⟩ | ⟨n,l2,hp,rfl,hr,ho⟩
 ·rw [hp] at HO
  obtain rfl:o=none:=HO.out
  have W:=Lib.hid (W1.out.trans (only2 (q:=q) ho))
  clear ho HO hp H2 F1 ht
  go_wp2
  exact ⟨rfl,rfl,W.out⟩
 have HO2:=HO.out
 rw [hp,Option.bind_some] at HO2
 dsimp only at HO2
 obtain ⟨_,n1,n2,n3,n4⟩:=smallP_some hp
 obtain ⟨m,rfl⟩:=Int.eq_ofNat_of_zero_le n3
 rw [Int.toNat_natCast] at HO2
 replace HO:=Lib.hid HO2
 have F2:=Lib.hid (F1.out.took hr ho)
 have W2:=Lib.hid (W1.out.trans (only2 (q:=q) ho))
 clear ho hr F1 hp H2 HO2 ht n1 n3 n4
 go_wp2_with fail
 go_loopw [13] (fun vk wr=>∃ (k:Nat) (xs:List Row3) (lk:List UInt8) (vt:Value),k≤m∧vk=.int .i64 k∧xs.length=k∧Fill wr g q s lk { r with beg:=bg } vt (.slice none 0 0)∧wr.ownsRow w.heap.size 136 3 vt k (rows3 xs)∧Only (Two g q) w wr∧Midst row3P m l2 xs lk) (fun vk _=>m - (intOf vk).toNat)
 case atStart=>exact ⟨0,[],l2,_,Nat.zero_le _,rfl,rfl,F2.out,World.ownsRow_nil _ _ _ _,W2.out,Midst.start _ _ _⟩
 case round =>
  obtain ⟨k,xs,lk,vt,hk,rfl,hxl,hf,hown,ho,hmid⟩:=hrel
  clear F2 W2
  have F3:=Lib.hid hf
  have OW:=Lib.hid hown
  have W3:=Lib.hid ho
  have MI:=Lib.hid hmid
  have XL:=Lib.hid hxl
  clear hf hown ho hmid hxl
  by_cases hlt:k < m
  ·go_wp2_with fail
   refine (rdnum1 F3.out.rd).mono ?_
   intro e w4 ht
   rcases ht.int with ⟨hp,rfl,ho⟩ | ⟨a,l3,hp1,rfl,hr,ho⟩
   ·have HO2:=HO.out
    rw [MI.out.none (by rw [XL.out]; exact hlt) (row3_none1 hp)] at HO2
    obtain rfl:o=none:=HO2
    have W:=Lib.hid (W3.out.trans (only2 (q:=q) ho))
    clear ho HO hp F3 ht OW MI W3 XL
    go_wp2
    exact ⟨rfl,rfl,W.out⟩
   have F4:=Lib.hid (F3.out.took hr ho)
   have W4:=Lib.hid (W3.out.trans (only2 (q:=q) ho))
   have OW4:=Lib.hid (own_only OW.out ho (own_reader OW.out F3.out.rd (by decide)))
   clear F3 W3 OW hr ho ht
   go_wp2_with fail
   refine (rdnum0 F4.out.rd).mono ?_
   intro e w5 ht
   rcases ht.int with ⟨hp,rfl,ho⟩ | ⟨b,l4,hp2,rfl,hr,ho⟩
   ·have HO2:=HO.out
    rw [MI.out.none (by rw [XL.out]; exact hlt) (row3_none2 hp1 hp)] at HO2
    obtain rfl:o=none:=HO2
    have W:=Lib.hid (W4.out.trans (only2 (q:=q) ho))
    clear ho HO hp F4 ht OW4 MI W4 XL hp1
    go_wp2
    exact ⟨rfl,rfl,W.out⟩
   have F5:=Lib.hid (F4.out.took hr ho)
   have W5:=Lib.hid (W4.out.trans (only2 (q:=q) ho))
   have OW5:=Lib.hid (own_only OW4.out ho (own_reader OW4.out F4.out.rd (by decide)))
   clear F4 W4 OW4 hr ho ht
   go_wp2_with fail
   refine (rdnum0 F5.out.rd).mono ?_
   intro e w6 ht
   rcases ht.int with ⟨hp,rfl,ho⟩ | ⟨c,l5,hp3,rfl,hr,ho⟩
   ·have HO2:=HO.out
    rw [MI.out.none (by rw [XL.out]; exact hlt) (row3_none3 hp1 hp2 hp)] at HO2
    obtain rfl:o=none:=HO2
    have W:=Lib.hid (W5.out.trans (only2 (q:=q) ho))
    clear ho HO hp F5 ht OW5 MI W5 XL hp1 hp2
    go_wp2
    exact ⟨rfl,rfl,W.out⟩
   have F6:=Lib.hid (F5.out.took hr ho)
   have W6:=Lib.hid (W5.out.trans (only2 (q:=q) ho))
   have OW6:=Lib.hid (own_only OW5.out ho (own_reader OW5.out F5.out.rd (by decide)))
   have MI2:=Lib.hid (MI.out.some (by rw [XL.out]; exact hlt) (row3_some hp1 hp2 hp3))
   clear F5 W5 OW5 hr ho ht hp1 hp2 hp3 MI
   go_wp2_with fail
   have hbw:Below w6.heap.size w6 (w6.alloc (.cells #[.int .i64 a,.int .i64 b,.int .i64 c] 136)):=(Below.refl _ _).alloc (Nat.le_refl _) _
   have B7:=Lib.hid (Blk.new w6 136 #[.int .i64 a,.int .i64 b,.int .i64 c])
   have F7:=Lib.hid (F6.out.more hbw)
   have W7:=Lib.hid (W6.out.more hbw)
   have OW7:=Lib.hid (own_below OW6.out hbw)
   have hsz:w.heap.size≤w6.heap.size:=W6.out.size
   clear F6 W6 OW6 hbw
   change Code.wp _ _ _ _ (w6.alloc (.cells #[.int .i64 a,.int .i64 b,.int .i64 c] 136))
   generalize w6.heap.size=x at *
   generalize w6.alloc (.cells #[.int .i64 a,.int .i64 b,.int .i64 c] 136)=w7 at *
   obtain ⟨va,vc,hvs⟩:=own_slice OW7.out
   subst hvs
   obtain ⟨hi3,z31,z32,z33⟩:=id I3.out
   refine' wp_region_free [0] 7 [.is (.pointer (some ⟨q,0,none⟩)),.is _,.is _,.is _,.is _,.is _,.slice w7.heap.size 1 136 #[.int .i64 a,.int .i64 b,.int .i64 c]] (by kernel_rfl) (by kernel_rfl) (by kernel_rfl) (by kernel_rfl) (by kernel_rfl) rfl ⟨rfl,trivial⟩ (fun _ _ _ _ _ h=>h) ?main
   case main =>
    iterate 6
     refine obs_is (fun w8 hE2 _=>?_) ?_
     ·have f8:=F7.out.drew.more hE2
      have c9:=f8.row.cell 9
      simp [recCells] at c9
      have b8:=B7.out.drew.keep hE2 B7.out.lt
      clear f8
      go_wp2_with (refine wpList_load_row rfl 136 _ rfl x rfl 136 _ (0,0) _ b8 Tryz.underlying136 rfl (by kernel_rfl) ?_)
      exact post_is (Below.refl _ _)
     simp only [Act.put,sA,sB,sC]
    refine obs_slice (fun w8 hE2 _=>?_) (fun qq=>?_)
    ·go_wp2
     exact ⟨_,rfl,⟨w8.heap.size,hE2.size,rfl,Blk.new _ _ _⟩,(Below.refl _ _).alloc (Nat.le_refl _) _⟩
    simp only [Act.put,sA,sB,sC]
    refine obs_end fun w8 hE3 hkn=>?_
    obtain ⟨g2,_,rfl,hb2⟩:=hkn _ (List.mem_cons_self)
    have F8:=Lib.hid (F7.out.drew.more hE3)
    have W8:=Lib.hid (W7.out.drew.more hE3)
    have OW8:=Lib.hid (own_below OW7.out.drew hE3)
    have hown:=OW8.out
    have lg:=F8.out.row.lt
    have nq:=own_blk hown F8.out.row (by decide)
    have c9:=F8.out.row.cell 9
    have z9:=F8.out.row.frozen 9
    simp [recCells] at c9
    clear hkn F7 W7 OW7 B7
    go_wp2_with (at_builtin; refine wpList_append_own_at _ rfl (.tmp 26) (.tmp 28) 43 rfl w.heap.size 136 i3 (.agg #[.int .i64 0,.int .i64 0,.int .i64 0]) 3 24 Tryz.underlying43 hi3 z31 z32 z33 rfl (by decide) _ _ _ rfl hown ⟨g2,0,none⟩ 1 1 [.int .i64 a,.int .i64 b,.int .i64 c] rfl rfl (World.news_of_block hb2) (by simp [Value.oneCell']) (by simp only [maxLen]; omega) (by omega) W8.out.size ?_)
    intro v' w9 hown9 hgrow _ hat
    have z10:=(hgrow.frozen_far ⟨q,9,none⟩ lg (Ne.symm nq)).trans z9
    have c10:=(hgrow.cell_far ⟨q,9,none⟩ lg (Ne.symm nq)).trans c9
    have P9:=Lib.hid (pushed (i:=9) (vt':=v') (vp':=.slice none 0 0) F8.out OW8.out hown9 hgrow (by decide) (by decide) rfl)
    have W9:=Lib.hid (pushedOnly (i:=9) (v':=v') W8.out OW8.out (Nat.le_refl _) hgrow)
    obtain ⟨ga,ca,hv9⟩:=own_slice hown9
    subst hv9
    clear F8 W8 OW8 hown lg nq c9 z9 hown9 hgrow hat hb2
    go_wp2
    go_roundw
    case rel=>exact ⟨k+1,xs++[(a,b,c)],l5,_,by omega,by go_num,by rw [List.length_append,XL.out]; rfl,P9.out.1,by rw [rows3_snoc]; exact P9.out.2,W9.out,MI2.out⟩
    case measure=>simp [intOf]; omega
  ·obtain rfl:k=m:=by omega
   have HO2:=HO.out
   rw [MI.out.done XL.out,Option.bind_some] at HO2
   dsimp only at HO2
   replace HO:=Lib.hid HO2
   have T3:=Lib.hid OW.out
   clear OW MI HO2 W1
   go_wp2_with fail
   refine (small_any F3.out.rd 0 8).mono ?_
   intro e w4 ht
   rcases ht.int with ⟨hp,rfl,ho⟩ | ⟨n,l6,hp,rfl,hr,ho⟩
   ·rw [hp] at HO
    obtain rfl:o=none:=HO.out
    have W:=Lib.hid (W3.out.trans (only2 (q:=q) ho))
    clear ho HO hp F3 ht
    go_wp2
    exact ⟨rfl,rfl,W.out⟩
   have HO2:=HO.out
   rw [hp,Option.bind_some] at HO2
   dsimp only at HO2
   obtain ⟨_,n5,n6,n7,n8⟩:=smallP_some hp
   obtain ⟨m2,rfl⟩:=Int.eq_ofNat_of_zero_le n7
   rw [Int.toNat_natCast] at HO2
   replace HO:=Lib.hid HO2
   have F4:=Lib.hid (F3.out.took hr ho)
   have W4:=Lib.hid (W3.out.trans (only2 (q:=q) ho))
   have T4:=Lib.hid (own_only T3.out ho (own_reader T3.out F3.out.rd (by decide)))
   clear ho hr F3 W3 T3 hp HO2 ht n5 n7 n8 hlt hk I3 n2
   go_wp2_with fail
   go_loopw [35] (fun vk wr=>∃ (j:Nat) (ys:List Row2) (lj:List UInt8) (vp:Value),j≤m2∧vk=.int .i64 j∧ys.length=j∧Fill wr g q s lj { r with beg:=bg } vt vp∧wr.ownsRow w.heap.size 138 2 vp j (rows2 ys)∧Only (Two g q) w wr∧Midst row2P m2 l6 ys lj∧wr.ownsRow w.heap.size 136 3 vt k (rows3 xs)) (fun vk _=>m2 - (intOf vk).toNat)
   case atStart=>exact ⟨0,[],l6,_,Nat.zero_le _,rfl,rfl,F4.out,World.ownsRow_nil _ _ _ _,W4.out,Midst.start _ _ _,T4.out⟩
   case round =>
    obtain ⟨j,ys,lj,vp,hj,rfl,hyl,hf,hown,ho,hmid,ht⟩:=hrel
    clear F4 W4 T4
    have F3:=Lib.hid hf
    have OW:=Lib.hid hown
    have W3:=Lib.hid ho
    have MI:=Lib.hid hmid
    have YL:=Lib.hid hyl
    have T3:=Lib.hid ht
    clear hf hown ho hmid hyl ht
    by_cases hlt:j < m2
    ·go_wp2_with fail
     refine (rdPage_any F3.out.rd).mono ?_
     intro e w4 ht
     rcases ht.int with ⟨hp,rfl,ho⟩ | ⟨a,l3,hp1,rfl,hr,ho⟩
     ·have HO2:=HO.out
      rw [MI.out.none (by rw [YL.out]; exact hlt) (row2_none1 hp)] at HO2
      obtain rfl:o=none:=HO2
      have W:=Lib.hid (W3.out.trans (only2 (q:=q) ho))
      clear ho HO hp F3 ht OW MI W3 YL T3
      go_wp2
      exact ⟨rfl,rfl,W.out⟩
     have F4:=Lib.hid (F3.out.took hr ho)
     have W4:=Lib.hid (W3.out.trans (only2 (q:=q) ho))
     have OW4:=Lib.hid (own_only OW.out ho (own_reader OW.out F3.out.rd (by decide)))
     have T4:=Lib.hid (own_only T3.out ho (own_reader T3.out F3.out.rd (by decide)))
     clear F3 W3 OW hr ho ht T3
     go_wp2_with fail
     refine (rdnum0 F4.out.rd).mono ?_
     intro e w5 ht
     rcases ht.int with ⟨hp,rfl,ho⟩ | ⟨b,l5,hp2,rfl,hr,ho⟩
     ·have HO2:=HO.out
      rw [MI.out.none (by rw [YL.out]; exact hlt) (row2_none2 hp1 hp)] at HO2
      obtain rfl:o=none:=HO2
      have W:=Lib.hid (W4.out.trans (only2 (q:=q) ho))
      clear ho HO hp F4 ht OW4 MI W4 YL hp1 T4
      go_wp2
      exact ⟨rfl,rfl,W.out⟩
     have F6:=Lib.hid (F4.out.took hr ho)
     have W6:=Lib.hid (W4.out.trans (only2 (q:=q) ho))
     have OW6:=Lib.hid (own_only OW4.out ho (own_reader OW4.out F4.out.rd (by decide)))
     have T6:=Lib.hid (own_only T4.out ho (own_reader T4.out F4.out.rd (by decide)))
     have MI2:=Lib.hid (MI.out.some (by rw [YL.out]; exact hlt) (row2_some hp1 hp2))
     clear F4 W4 OW4 hr ho ht hp1 hp2 MI T4
     go_wp2_with fail
     have hbw:Below w5.heap.size w5 (w5.alloc (.cells #[.int .i64 a,.int .i64 b] 138)):=(Below.refl _ _).alloc (Nat.le_refl _) _
     have B7:=Lib.hid (Blk.new w5 138 #[.int .i64 a,.int .i64 b])
     have F7:=Lib.hid (F6.out.more hbw)
     have W7:=Lib.hid (W6.out.more hbw)
     have OW7:=Lib.hid (own_below OW6.out hbw)
     have T7:=Lib.hid (own_below T6.out hbw)
     have hsz:w.heap.size≤w5.heap.size:=W6.out.size
     clear F6 W6 OW6 hbw T6
     change Code.wp _ _ _ _ (w5.alloc (.cells #[.int .i64 a,.int .i64 b] 138))
     generalize w5.heap.size=x at *
     generalize w5.alloc (.cells #[.int .i64 a,.int .i64 b] 138)=w7 at *
     obtain ⟨va,vc,hvs⟩:=own_slice OW7.out
     subst hvs
     obtain ⟨hi3,z31,z32,z33⟩:=id I2.out
     refine' wp_region_free [0] 7 [.is (.pointer (some ⟨q,0,none⟩)),.is _,.is _,.is _,.is _,.is _,.slice w7.heap.size 1 138 #[.int .i64 a,.int .i64 b]] (by kernel_rfl) (by kernel_rfl) (by kernel_rfl) (by kernel_rfl) (by kernel_rfl) rfl ⟨rfl,trivial⟩ (fun _ _ _ _ _ h=>h) ?main
     case main =>
      iterate 6
       refine obs_is (fun w8 hE2 _=>?_) ?_
       ·have f8:=F7.out.drew.more hE2
        have c9:=f8.row.cell 10
        simp [recCells] at c9
        have b8:=B7.out.drew.keep hE2 B7.out.lt
        clear f8
        go_wp2_with (refine wpList_load_row rfl 138 _ rfl x rfl 138 _ (0,0) _ b8 Tryz.underlying138 rfl (by kernel_rfl) ?_)
        exact post_is (Below.refl _ _)
       simp only [Act.put,sA,sB,sC]
      refine obs_slice (fun w8 hE2 _=>?_) (fun qq=>?_)
      ·go_wp2
       exact ⟨_,rfl,⟨w8.heap.size,hE2.size,rfl,Blk.new _ _ _⟩,(Below.refl _ _).alloc (Nat.le_refl _) _⟩
      simp only [Act.put,sA,sB,sC]
      refine obs_end fun w8 hE3 hkn=>?_
      obtain ⟨g2,_,rfl,hb2⟩:=hkn _ (List.mem_cons_self)
      have F8:=Lib.hid (F7.out.drew.more hE3)
      have W8:=Lib.hid (W7.out.drew.more hE3)
      have OW8:=Lib.hid (own_below OW7.out.drew hE3)
      have T8:=Lib.hid (own_below T7.out.drew hE3)
      have hown:=OW8.out
      have lg:=F8.out.row.lt
      have nq:=own_blk hown F8.out.row (by decide)
      have c9:=F8.out.row.cell 10
      have z9:=F8.out.row.frozen 10
      simp [recCells] at c9
      clear hkn F7 W7 OW7 B7 T7
      go_wp2_with (at_builtin; refine wpList_append_own_at _ rfl (.tmp 46) (.tmp 48) 44 rfl w.heap.size 138 i2 (.agg #[.int .i64 0,.int .i64 0]) 2 16 Tryz.underlying44 hi3 z31 z32 z33 rfl (by decide) _ _ _ rfl hown ⟨g2,0,none⟩ 1 1 [.int .i64 a,.int .i64 b] rfl rfl (World.news_of_block hb2) (by simp [Value.oneCell']) (by simp only [maxLen]; omega) (by omega) W8.out.size ?_)
      intro v' w9 hown9 hgrow _ hat
      have z10:=(hgrow.frozen_far ⟨q,10,none⟩ lg (Ne.symm nq)).trans z9
      have c10:=(hgrow.cell_far ⟨q,10,none⟩ lg (Ne.symm nq)).trans c9
      have P9:=Lib.hid (pushed (i:=10) (vt':=vt) (vp':=v') F8.out OW8.out hown9 hgrow (by decide) (by decide) rfl)
      have W9:=Lib.hid (pushedOnly (i:=10) (v':=v') W8.out OW8.out (Nat.le_refl _) hgrow)
      have T9:=Lib.hid (own_keep (w':=w9.setCell ⟨q,10,none⟩ v') T8.out fun b hb=>(heap_setCell_other w9 ⟨q,10,none⟩ b _ (fun e=>own_blk T8.out F8.out.row (by decide) (by rw [hb,e]))).trans
       (hgrow.block b (T8.out.lt b hb).2 (fun e=>own_apart T8.out OW8.out (by decide) hb e.symm)))
      obtain ⟨ga,ca,hv9⟩:=own_slice hown9
      subst hv9
      clear F8 W8 OW8 hown lg nq c9 z9 hown9 hgrow hat hb2 T8
      go_wp2
      go_roundw
      case rel=>exact ⟨j+1,ys++[(a,b)],l5,_,by omega,by go_num,by rw [List.length_append,YL.out]; rfl,P9.out.1,by rw [rows2_snoc]; exact P9.out.2,W9.out,MI2.out,T9.out⟩
      case measure=>simp [intOf]; omega
    ·obtain rfl:j=m2:=by omega
     have HO2:=HO.out
     rw [MI.out.done YL.out,Option.map_some] at HO2
     dsimp only at HO2
     subst HO2
     clear MI HO
     have G:=Lib.hid (show Fill wr g q s lj { r with beg:=bg,txns:=xs,pages:=ys } vt vp∧Lists wr { r with beg:=bg,txns:=xs,pages:=ys } vt vp∧Only (Two g q) w wr∧New w vt∧New w vp from
      ⟨⟨F3.out.rd,F3.out.row,F3.out.ne⟩,⟨by show Elems wr vt xs.length (rows3 xs); rw [XL.out]; exact Elems.ofOwn T3.out,by show Elems wr vp ys.length (rows2 ys); rw [YL.out]; exact Elems.ofOwn OW.out⟩,W3.out,New.own T3.out (Nat.le_refl _),New.own OW.out (Nat.le_refl _)⟩)
     clear F3 T3 OW W3
     go_wp2
     go_end0
     exact ⟨rfl,_,_,G.out⟩
end Go.Proofs.YthkbcfhjmnpggaaGreat

namespace Go.Proofs.YthkbcfhjmnpggaaGreat
open Go.RowKit
theorem ownsRow_empty3 (w:World) (e size:Nat):(w.alloc (.cells #[] e)).ownsRow w.heap.size e size (.slice (some ⟨w.heap.size,0,none⟩) 0 0) 0 [] :=
 ⟨by simp,.inr ⟨w.heap.size,0,#[],rfl,Nat.le_refl _,heap_alloc_new w _,Nat.le_refl _,by decide,by simp,by simp⟩⟩
theorem ta_info2:(Tryz.prog.info? 138).map (fun i=>(i.zero,i.size,i.bytes))=some (some (.agg #[.int .i64 0,.int .i64 0]),2,16):=by kernel_rfl
theorem rows3_one (l:List Row3):∀ u ∈ rows3 l,u.oneCell' = true:=by
 intro u hu
 obtain ⟨x,_,hx⟩:=List.mem_flatMap.1 hu
 simp [cells3] at hx
 rcases hx with rfl | rfl | rfl <;> rfl
set_option maxRecDepth 100000 in
set_option maxHeartbeats 2000000 in
theorem cloneRows3 (l:List Row3) (v:Value) (w:World) (h:Elems w v l.length (rows3 l)) (hl:l.length≤1000) :
 Calls Tryz.prog 94 #[v] w fun e w'=>∃ v',e=.returned v'∧Elems w' v' l.length (rows3 l)∧(∀ b,v'.ownBlock=some b→w.heap.size≤b)∧Below w.heap.size w w':=by
 obtain ⟨i0,hi0,hz0,hz1,hz2⟩:=info_parts info_txn
 obtain ⟨a,cap,rfl,h1,h2,hx⟩:=h
 cases a with
 | none =>
   have h0:l = []:=by
    cases l with
    | nil=>rfl
    | cons x l=>obtain ⟨b,off,e,_⟩:=hx 0 _ rfl; cases e
   subst h0
   have hq:=fun w=>Lib.run_eql_slice_nil (P:=Tryz.prog) w 43 _ none 0 cap 0 0 Tryz.underlying43
   clear hx h1 h2 hl
   go_enter Tryz.func94,Tryz.ntmps94
   go_wp2
   go_ret
   exact ⟨_,rfl,Elems.nil _,fun b hb=>by simp [Value.ownBlock] at hb,Below.refl _ _⟩
 | some ad =>
   have hcs:∀ j u,(rows3 l)[j]? = some u→(w.alloc (.cells #[] 136)).cell? (ad.add j)=some u:=fun j u hj=>by
    obtain ⟨b,off,e,hc⟩:=hx j u hj
    cases e
    have e2:(⟨b,off,none⟩:Addr).add j=⟨b,off+j,none⟩:=by unfold Addr.add; split <;> simp_all
    rw [e2]
    exact (((Below.refl w.heap.size w).alloc (Nat.le_refl _) (.cells #[] 136)).cell (p:=⟨b,off+j,none⟩) (World.block_lt_of_cell? w ⟨b,off+j,none⟩ hc)).trans hc
   have HS:=Lib.hid hcs
   have H1:=Lib.hid (rows3_one l)
   have HL:=Lib.hid (show (rows3 l).length=l.length*3 from rows3_len l)
   clear hx hcs
   have hq:=fun w=>Lib.run_eql_slice_nil (P:=Tryz.prog) w 43 _ (some ad) l.length cap 0 0 Tryz.underlying43
   go_enter Tryz.func94,Tryz.ntmps94
   go_wp2_with (at_builtin; refine wpList_append_own _ rfl (.tmp 5) (.tmp 6) 43 rfl w.heap.size 136 i0 (.agg #[.int .i64 0,.int .i64 0,.int .i64 0]) 3 24 Tryz.underlying43 hi0 hz0 hz1 hz2 rfl (by decide) _ _ _ rfl (ownsRow_empty3 w _ 3) ad l.length cap (rows3 l) rfl HL.out HS.out H1.out (by simp only [maxLen]; omega) (by omega) (by simp) ?_)
   intro v' w1 hown hgrow _
   have hb:Below w.heap.size w w1:=((Below.refl _ _).alloc (Nat.le_refl _) _).grown hgrow (by simp) (fun k hk=>by simp [Value.ownBlock] at hk; omega)
   have HOW:=Lib.hid hown
   have HLT:=Lib.hid hown.lt
   clear hown hgrow
   go_wp2
   go_ret
   exact ⟨_,rfl,by have:=Elems.ofOwn HOW.out; simpa using this,fun b hb=>(HLT.out b hb).1,hb⟩
theorem rows2_one (l:List Row2):∀ u ∈ rows2 l,u.oneCell' = true:=by
 intro u hu
 obtain ⟨x,_,hx⟩:=List.mem_flatMap.1 hu
 simp [cells2] at hx
 rcases hx with rfl | rfl <;> rfl
set_option maxRecDepth 100000 in
set_option maxHeartbeats 2000000 in
theorem cloneRows2 (l:List Row2) (v:Value) (w:World) (h:Elems w v l.length (rows2 l)) (hl:l.length≤1000) :
 Calls Tryz.prog 95 #[v] w fun e w'=>∃ v',e=.returned v'∧Elems w' v' l.length (rows2 l)∧(∀ b,v'.ownBlock=some b→w.heap.size≤b)∧Below w.heap.size w w':=by
 obtain ⟨i0,hi0,hz0,hz1,hz2⟩:=info_parts ta_info2
 obtain ⟨a,cap,rfl,h1,h2,hx⟩:=h
 cases a with
 | none =>
   have h0:l = []:=by
    cases l with
    | nil=>rfl
    | cons x l=>obtain ⟨b,off,e,_⟩:=hx 0 _ rfl; cases e
   subst h0
   have hq:=fun w=>Lib.run_eql_slice_nil (P:=Tryz.prog) w 44 _ none 0 cap 0 0 Tryz.underlying44
   clear hx h1 h2 hl
   go_enter Tryz.func95,Tryz.ntmps95
   go_wp2
   go_ret
   exact ⟨_,rfl,Elems.nil _,fun b hb=>by simp [Value.ownBlock] at hb,Below.refl _ _⟩
 | some ad =>
   have hcs:∀ j u,(rows2 l)[j]? = some u→(w.alloc (.cells #[] 138)).cell? (ad.add j)=some u:=fun j u hj=>by
    obtain ⟨b,off,e,hc⟩:=hx j u hj
    cases e
    have e2:(⟨b,off,none⟩:Addr).add j=⟨b,off+j,none⟩:=by unfold Addr.add; split <;> simp_all
    rw [e2]
    exact (((Below.refl w.heap.size w).alloc (Nat.le_refl _) (.cells #[] 138)).cell (p:=⟨b,off+j,none⟩) (World.block_lt_of_cell? w ⟨b,off+j,none⟩ hc)).trans hc
   have HS:=Lib.hid hcs
   have H1:=Lib.hid (rows2_one l)
   have HL:=Lib.hid (show (rows2 l).length=l.length*2 from rows2_len l)
   clear hx hcs
   have hq:=fun w=>Lib.run_eql_slice_nil (P:=Tryz.prog) w 44 _ (some ad) l.length cap 0 0 Tryz.underlying44
   go_enter Tryz.func95,Tryz.ntmps95
   go_wp2_with (at_builtin; refine wpList_append_own _ rfl (.tmp 5) (.tmp 6) 44 rfl w.heap.size 138 i0 (.agg #[.int .i64 0,.int .i64 0]) 2 16 Tryz.underlying44 hi0 hz0 hz1 hz2 rfl (by decide) _ _ _ rfl (ownsRow_empty3 w _ 2) ad l.length cap (rows2 l) rfl HL.out HS.out H1.out (by simp only [maxLen]; omega) (by omega) (by simp) ?_)
   intro v' w1 hown hgrow _
   have hb:Below w.heap.size w w1:=((Below.refl _ _).alloc (Nat.le_refl _) _).grown hgrow (by simp) (fun k hk=>by simp [Value.ownBlock] at hk; omega)
   have HOW:=Lib.hid hown
   have HLT:=Lib.hid hown.lt
   clear hown hgrow
   go_wp2
   go_ret
   exact ⟨_,rfl,by have:=Elems.ofOwn HOW.out; simpa using this,fun b hb=>(HLT.out b hb).1,hb⟩
end Go.Proofs.YthkbcfhjmnpggaaGreat

namespace Go.Proofs.YthkbcfhjmnpggaaGreat
open Go.RowKit
structure Spare (S:Nat→Prop) (w w':World):Prop where
 os:w'.os=w.os
 tape:w'.tape=w.tape
 output:w'.output=w.output
 size:w.heap.size≤w'.heap.size
 block:∀ b,b < w.heap.size→¬ S b→w'.heap[b]? = w.heap[b]?
namespace Spare
variable {S:Nat→Prop} {w w' w'':World}
theorem refl (S:Nat→Prop) (w:World):Spare S w w:=⟨rfl,rfl,rfl,Nat.le_refl _,fun _ _ _=>rfl⟩
theorem trans (h:Spare S w w') (k:Spare S w' w''):Spare S w w'':=⟨k.os.trans h.os,k.tape.trans h.tape,k.output.trans h.output,Nat.le_trans h.size k.size,fun b hb hs=>(k.block b (Nat.lt_of_lt_of_le hb h.size) hs).trans (h.block b hb hs)⟩
theorem ofBelow (h:Below w.heap.size w w'):Spare S w w':=⟨h.os,h.tape,h.output,h.size,fun b hb _=>h.block b hb⟩
theorem below (h:Spare S w w') {B:Nat} {a:World} (k:Below B a w) (hS:∀ b,S b→B≤b) (hB:B≤w.heap.size):Below B a w' :=
 ⟨h.os.trans k.os,h.tape.trans k.tape,h.output.trans k.output,Nat.le_trans k.size h.size,fun b hb=>(h.block b (by omega) fun e=>by have:=hS b e; omega).trans (k.block b hb)⟩
theorem setCell {p:Addr} (hg:S p.block) (v:Value):Spare S w (w.setCell p v):=⟨rfl,rfl,rfl,by simp [World.setCell],fun b _ hs=>heap_setCell_other w p b v (fun e=>hs (e ▸ hg))⟩
end Spare
section
variable {P:Program} {ops:Array Oper}
end
section
variable (P:Program) (ops:Array Oper) (w0:World) (Q:Exit→Act→World→Prop) (S:Nat→Prop) (j:Nat) (q p:World→Prop)
end
section
variable {P:Program} {ops:Array Oper} {n j:Nat} {ds:List Value} {w0:World} {a0:Act} {Q:Exit→Act→World→Prop} {S:Nat→Prop} {q p:World→Prop}
end
section
variable {P:Program} {ops:Array Oper} {w0:World} {Q:Exit→Act→World→Prop} {S:Nat→Prop} {i j:Nat} {q p:World→Prop} {o:Oper} {rest:List Oper} {d:Value} {ds:List Value} {C C':Act}
end
end Go.Proofs.YthkbcfhjmnpggaaGreat
