/- Texts that belong together, joined: RecE, RecF, LoadG. -/
import Derived.Test.YthkbcfhjmnpggaaGreatK04
import Derived.Tactics
import Derived.Tactics2
import Derived.Defers
import Derived.Recover
import Derived.Laws.Pointers
import Derived.Test.YthkbcfhjmnpggaaGreatK00
namespace Go.Proofs.YthkbcfhjmnpggaaGreat
open Go.RowKit
def GotRec (w:World) (g:Nat) (s:ByteArray) (o:Option (Rc × List UInt8)) (e:Ending) (w':World):Prop :=
 match o with
 | some (r,l)=>∃ vt vp,e=.returned (recV r vt vp)∧Lists w' r vt vp∧Rd w' g s l∧Only (· = g) w w'∧New w vt∧New w vp
 | none=>e=.panicked gaveUp∧Only (· = g) w w'
structure Reading (w wr:World) (g q:Nat) (s:ByteArray) (l:List UInt8) (r:Rc) (vt vp:Value):Prop where
 fill:Fill wr g q s l r vt vp
 box:Blk wr w.heap.size 46 (recCells .nil (.slice none 0 0) (.slice none 0 0))
 only:Only (· = g) w wr
 old:g < w.heap.size
 new:w.heap.size < q
namespace Reading
variable {w wr w':World} {g q:Nat} {s:ByteArray} {l l':List UInt8} {r r':Rc} {vt vp vt' vp':Value}
theorem step (h:Reading w wr g q s l r vt vp) (hf:Fill w' g q s l' r' vt' vp') (ho:Only (Two g q) wr w'):Reading w w' g q s l' r' vt' vp' :=
 ⟨hf,ho.blk h.box (by have:=h.old; have:=h.new; rintro (e | e) <;> omega),h.only.and_ ho fun b hb=>hb.elim .inl fun e=>.inr (by have:=h.new; omega),h.old,h.new⟩
theorem gone (h:Reading w wr g q s l r vt vp) (ho:Only (Two g q) wr w'):Only (· = g) w w':=h.only.and_ ho fun b hb=>hb.elim .inl fun e=>.inr (by have:=h.new; omega)
theorem took (h:Reading w wr g q s l r vt vp) (hr:Rd w' g s l') (ho:Only (· = g) wr w'):Reading w w' g q s l' r vt vp:=h.step (h.fill.took hr ho) (only2 ho)
theorem set (h:Reading w wr g q s l r vt vp) (i:Nat) (v:Value) {cs:Array Value} (hc:(recCells r vt vp).setIfInBounds i v=cs) (hcs:cs=recCells r' vt vp):Reading w (wr.setCell ⟨q,i,none⟩ v) g q s l r' vt vp :=
 h.step (h.fill.set i v hc hcs) (only2set (Only.refl _ _) i v)
theorem over (h:Reading w wr g q s l r vt vp) (hl:Lists wr r vt vp) (ht:New w vt) (hp:New w vp) (h1:∀ b,vt.ownBlock=some b→b≠w.heap.size) (h2:∀ b,vp.ownBlock=some b→b≠w.heap.size) :
 Lists (wr.setRow w.heap.size (recCells r vt vp)) r vt vp∧Rd (wr.setRow w.heap.size (recCells r vt vp)) g s l∧Only (· = g) w (wr.setRow w.heap.size (recCells r vt vp))∧New w vt∧New w vp:=by
 have hs:Only (· = w.heap.size) wr (wr.setRow w.heap.size (recCells r vt vp)):=(Only.refl (· = w.heap.size) wr).setRow (g:=w.heap.size) (.inl rfl) _
 obtain ⟨k,a,b,c,d⟩:=h.fill.rd
 exact ⟨hl.keepS hs h1 h2,⟨k,a,b,c,d.farRow (by have:=h.old; omega) _⟩,h.only.setRow (.inr (Nat.le_refl _)) _,ht,hp⟩
end Reading
set_option maxRecDepth 100000 in
set_option maxHeartbeats 8000000 in
theorem record_any {w:World} {g:Nat} {s:ByteArray} {l:List UInt8} (h:Rd w g s l) (o:Option (Rc × List UInt8)) (ho:o=recP l) :
 Calls Tryz.prog 101 #[.pointer (some ⟨g,0,none⟩)] w (GotRec w g s o):=by
 unfold recP at ho
 have HO:=Lib.hid ho
 have R0:=Lib.hid h
 clear ho h
 go_enter Tryz.func101,Tryz.ntmps101
 go_wp2_with fail
 have hr0:Rd (w.alloc (.cells (recCells .nil (.slice none 0 0) (.slice none 0 0)) 46)) g s l:=by
  obtain ⟨k,h1,h2,h3,h4⟩:=R0.out
  exact ⟨k,h1,h2,h3,h4.alloc _⟩
 have hg0:g < w.heap.size:=by
  obtain ⟨k,h1,h2,h3,h4⟩:=R0.out
  exact h4.lt
 have hbx:=Blk.new w 46 (recCells .nil (.slice none 0 0) (.slice none 0 0))
 have ho0:=(Only.refl (· = g) w).alloc (.cells (recCells .nil (.slice none 0 0) (.slice none 0 0)) 46)
 change Calls _ _ _ (w.alloc (.cells (recCells .nil (.slice none 0 0) (.slice none 0 0)) 46)) _
 have hs0:w.heap.size < (w.alloc (.cells (recCells .nil (.slice none 0 0) (.slice none 0 0)) 46)).heap.size:=by simp
 generalize w.alloc (.cells (recCells .nil (.slice none 0 0) (.slice none 0 0)) 46)=w0 at *
 refine (small_any hr0 1 6).mono ?_
 intro e w1 ht
 rcases ht.int with ⟨hp,rfl,ho⟩ | ⟨k,l1,hp,rfl,hr,ho⟩
 ·rw [hp] at HO
  obtain rfl:o=none:=HO.out
  have W:=Lib.hid (ho0.trans ho)
  clear ho HO hp ht hr0 R0 hbx ho0
  go_wp2
  exact ⟨rfl,rfl,W.out⟩
 have HO2:=HO.out
 rw [hp,Option.bind_some] at HO2
 dsimp only at HO2
 replace HO:=Lib.hid HO2
 obtain ⟨_,k1,k2,_,_⟩:=smallP_some hp
 have G0:Hid (Reading w (w1.alloc (.cells (recCells { Rc.nil with kind:=k } (.slice none 0 0) (.slice none 0 0)) 46)) g w1.heap.size s l1 { Rc.nil with kind:=k } (.slice none 0 0) (.slice none 0 0)):=by
  have h1:=hr
  obtain ⟨a,b,c,d,e⟩:=h1
  have hsz:=ho.size
  exact ⟨⟨⟨a,b,c,d,e.alloc _⟩,Blk.new _ _ _,by have:=e.lt; show w1.heap.size≠g; omega⟩,(ho.blk hbx (by show ¬ w.heap.size=g; omega)).alloc _,(ho0.trans ho).alloc _,hg0,by omega⟩
 clear hr0 hbx ho0 hr ho ht hp HO2 R0 hg0 hs0
 have hk:k=1∨k=2∨k=3∨k=4∨k=5∨k=6:=by omega
 clear k1 k2
 rcases hk with rfl | rfl | rfl | rfl | rfl | rfl
 ·-- kind 1
  rw [if_pos (by first | decide | trivial | simp)] at HO
  go_wp2_with fail
  change Calls _ _ _ (w1.alloc (.cells (recCells { Rc.nil with kind:=1 } (.slice none 0 0) (.slice none 0 0)) 46)) _
  generalize w1.alloc (.cells (recCells { Rc.nil with kind:=1 } (.slice none 0 0) (.slice none 0 0)) 46)=w2 at *
  generalize w1.heap.size=q at *
  have G:=G0
  clear G0
  refine (rdnum1 G.out.fill.rd).mono ?_
  intro e w3a ht
  rcases ht.int with ⟨hp,rfl,ho⟩ | ⟨t,l2,hp,rfl,hr,ho⟩
  ·rw [hp] at HO
   obtain rfl:o=none:=HO.out
   have W:=Lib.hid (G.out.gone (only2 (q:=q) ho))
   clear ho HO hp G ht
   go_wp2
   exact ⟨rfl,rfl,W.out⟩
  have HO2:=HO.out
  rw [hp,Option.bind_some] at HO2
  dsimp only at HO2
  replace HO:=Lib.hid HO2
  have g1:=G.out.took hr ho
  have cc:=g1.fill.row.cell 1
  have zz:=g1.fill.row.frozen 1
  simp [recCells,Rc.nil] at cc
  have G2:=Lib.hid (g1.set 1 (.int .i64 t) rfl (r':={ Rc.nil with kind:=1,txn:=t }) rfl)
  clear g1 hr ho G hp ht HO2
  go_wp2_with fail
  generalize w3a.setCell ⟨q,1,none⟩ (.int .i64 t)=w3 at *
  clear cc zz
  have G:=G2
  clear G2
  refine (rdnum0 G.out.fill.rd).mono ?_
  intro e w4a ht
  rcases ht.int with ⟨hp,rfl,ho⟩ | ⟨p,l3,hp,rfl,hr,ho⟩
  ·rw [hp] at HO
   obtain rfl:o=none:=HO.out
   have W:=Lib.hid (G.out.gone (only2 (q:=q) ho))
   clear ho HO hp G ht
   go_wp2
   exact ⟨rfl,rfl,W.out⟩
  have HO2:=HO.out
  rw [hp,Option.bind_some] at HO2
  dsimp only at HO2
  replace HO:=Lib.hid HO2
  have g1:=G.out.took hr ho
  have cc:=g1.fill.row.cell 4
  have zz:=g1.fill.row.frozen 4
  simp [recCells,Rc.nil] at cc
  have G2:=Lib.hid (g1.set 4 (.int .i64 p) rfl (r':={ Rc.nil with kind:=1,txn:=t,prev:=p }) rfl)
  clear g1 hr ho G hp ht HO2
  have c0:=G2.out.fill.row.cell 0
  simp [recCells] at c0
  go_wp2_with fail
  generalize w4a.setCell ⟨q,4,none⟩ (.int .i64 p)=w4 at *
  clear cc zz
  have G:=G2
  clear G2
  have HO2:=HO.out
  rw [if_neg (by first | decide | simp),if_pos (by first | trivial | simp)] at HO2
  refine (change_any G.out.fill o HO2).mono ?_
  clear HO
  intro e w7 ht
  cases o with
  | none =>
    obtain ⟨rfl,ho⟩:=ht
    have W:=Lib.hid (G.out.gone ho)
    clear ho G HO2
    go_wp2
    exact ⟨rfl,rfl,W.out⟩
  | some x =>
    obtain ⟨r,l7⟩:=x
    obtain ⟨rfl,hf,ho⟩:=ht
    have hrows:=changeP_rows HO2.symm
    have LST:=Lib.hid (Lists.nil w7 r hrows.1 hrows.2)
    have G2:=Lib.hid (G.out.step hf ho)
    clear hf ho G HO2 hrows
    have G:=G2
    clear G2
    have row:=G.out.fill.row
    have box:=G.out.box
    have one:=LST.out.one
    have OV:=Lib.hid (G.out.over LST.out (New.nil _) (New.nil _) (fun b h=>by cases h) (fun b h=>by cases h))
    go_wp2_with (first
     | (refine wpList_load_row rfl 46 _ rfl q rfl 46 _ (0,0) _ row Tryz.underlying46 rfl (by kernel_rfl) ?_)
     | (refine wpList_store_row rfl 46 _ _ rfl w.heap.size _ rfl rfl 46 _ box (by kernel_rfl) rfl one ?_))
    exact bodyPost_ret (results_cell_row rfl _ _ w.heap.size 46 _ (0,0) _ rfl (box.setRow _) Tryz.underlying46 rfl (by kernel_rfl)) rfl ⟨_,_,rfl,OV.out⟩
 ·-- kind 2
  rw [if_pos (by first | decide | trivial | simp)] at HO
  go_wp2_with fail
  change Calls _ _ _ (w1.alloc (.cells (recCells { Rc.nil with kind:=2 } (.slice none 0 0) (.slice none 0 0)) 46)) _
  generalize w1.alloc (.cells (recCells { Rc.nil with kind:=2 } (.slice none 0 0) (.slice none 0 0)) 46)=w2 at *
  generalize w1.heap.size=q at *
  have G:=G0
  clear G0
  refine (rdnum1 G.out.fill.rd).mono ?_
  intro e w3a ht
  rcases ht.int with ⟨hp,rfl,ho⟩ | ⟨t,l2,hp,rfl,hr,ho⟩
  ·rw [hp] at HO
   obtain rfl:o=none:=HO.out
   have W:=Lib.hid (G.out.gone (only2 (q:=q) ho))
   clear ho HO hp G ht
   go_wp2
   exact ⟨rfl,rfl,W.out⟩
  have HO2:=HO.out
  rw [hp,Option.bind_some] at HO2
  dsimp only at HO2
  replace HO:=Lib.hid HO2
  have g1:=G.out.took hr ho
  have cc:=g1.fill.row.cell 1
  have zz:=g1.fill.row.frozen 1
  simp [recCells,Rc.nil] at cc
  have G2:=Lib.hid (g1.set 1 (.int .i64 t) rfl (r':={ Rc.nil with kind:=2,txn:=t }) rfl)
  clear g1 hr ho G hp ht HO2
  go_wp2_with fail
  generalize w3a.setCell ⟨q,1,none⟩ (.int .i64 t)=w3 at *
  clear cc zz
  have G:=G2
  clear G2
  refine (rdnum0 G.out.fill.rd).mono ?_
  intro e w4a ht
  rcases ht.int with ⟨hp,rfl,ho⟩ | ⟨p,l3,hp,rfl,hr,ho⟩
  ·rw [hp] at HO
   obtain rfl:o=none:=HO.out
   have W:=Lib.hid (G.out.gone (only2 (q:=q) ho))
   clear ho HO hp G ht
   go_wp2
   exact ⟨rfl,rfl,W.out⟩
  have HO2:=HO.out
  rw [hp,Option.bind_some] at HO2
  dsimp only at HO2
  replace HO:=Lib.hid HO2
  have g1:=G.out.took hr ho
  have cc:=g1.fill.row.cell 4
  have zz:=g1.fill.row.frozen 4
  simp [recCells,Rc.nil] at cc
  have G2:=Lib.hid (g1.set 4 (.int .i64 p) rfl (r':={ Rc.nil with kind:=2,txn:=t,prev:=p }) rfl)
  clear g1 hr ho G hp ht HO2
  have c0:=G2.out.fill.row.cell 0
  simp [recCells] at c0
  go_wp2_with fail
  generalize w4a.setCell ⟨q,4,none⟩ (.int .i64 p)=w4 at *
  clear cc zz
  have G:=G2
  clear G2
  rw [if_pos (by first | trivial | simp)] at HO
  refine (rdnum0 G.out.fill.rd).mono ?_
  intro e w5a ht
  rcases ht.int with ⟨hp,rfl,ho⟩ | ⟨n,l4,hp,rfl,hr,ho⟩
  ·rw [hp] at HO
   obtain rfl:o=none:=HO.out
   have W:=Lib.hid (G.out.gone (only2 (q:=q) ho))
   clear ho HO hp G ht
   go_wp2
   exact ⟨rfl,rfl,W.out⟩
  have HO2:=HO.out
  rw [hp,Option.bind_some] at HO2
  dsimp only at HO2
  replace HO:=Lib.hid HO2
  have g1:=G.out.took hr ho
  have cc:=g1.fill.row.cell 5
  have zz:=g1.fill.row.frozen 5
  simp [recCells,Rc.nil] at cc
  have G2:=Lib.hid (g1.set 5 (.int .i64 n) rfl (r':={ Rc.nil with kind:=2,txn:=t,prev:=p,next:=n }) rfl)
  clear g1 hr ho G hp ht HO2
  go_wp2_with fail
  generalize w5a.setCell ⟨q,5,none⟩ (.int .i64 n)=w5 at *
  clear cc zz
  have G:=G2
  clear G2
  have HO2:=HO.out
  refine (change_any G.out.fill o HO2).mono ?_
  clear HO
  intro e w7 ht
  cases o with
  | none =>
    obtain ⟨rfl,ho⟩:=ht
    have W:=Lib.hid (G.out.gone ho)
    clear ho G HO2
    go_wp2
    exact ⟨rfl,rfl,W.out⟩
  | some x =>
    obtain ⟨r,l7⟩:=x
    obtain ⟨rfl,hf,ho⟩:=ht
    have hrows:=changeP_rows HO2.symm
    have LST:=Lib.hid (Lists.nil w7 r hrows.1 hrows.2)
    have G2:=Lib.hid (G.out.step hf ho)
    clear hf ho G HO2 hrows
    have G:=G2
    clear G2
    have row:=G.out.fill.row
    have box:=G.out.box
    have one:=LST.out.one
    have OV:=Lib.hid (G.out.over LST.out (New.nil _) (New.nil _) (fun b h=>by cases h) (fun b h=>by cases h))
    go_wp2_with (first
     | (refine wpList_load_row rfl 46 _ rfl q rfl 46 _ (0,0) _ row Tryz.underlying46 rfl (by kernel_rfl) ?_)
     | (refine wpList_store_row rfl 46 _ _ rfl w.heap.size _ rfl rfl 46 _ box (by kernel_rfl) rfl one ?_))
    exact bodyPost_ret (results_cell_row rfl _ _ w.heap.size 46 _ (0,0) _ rfl (box.setRow _) Tryz.underlying46 rfl (by kernel_rfl)) rfl ⟨_,_,rfl,OV.out⟩
 ·-- kind 3
  rw [if_pos (by first | decide | trivial | simp)] at HO
  go_wp2_with fail
  change Calls _ _ _ (w1.alloc (.cells (recCells { Rc.nil with kind:=3 } (.slice none 0 0) (.slice none 0 0)) 46)) _
  generalize w1.alloc (.cells (recCells { Rc.nil with kind:=3 } (.slice none 0 0) (.slice none 0 0)) 46)=w2 at *
  generalize w1.heap.size=q at *
  have G:=G0
  clear G0
  refine (rdnum1 G.out.fill.rd).mono ?_
  intro e w3a ht
  rcases ht.int with ⟨hp,rfl,ho⟩ | ⟨t,l2,hp,rfl,hr,ho⟩
  ·rw [hp] at HO
   obtain rfl:o=none:=HO.out
   have W:=Lib.hid (G.out.gone (only2 (q:=q) ho))
   clear ho HO hp G ht
   go_wp2
   exact ⟨rfl,rfl,W.out⟩
  have HO2:=HO.out
  rw [hp,Option.bind_some] at HO2
  dsimp only at HO2
  replace HO:=Lib.hid HO2
  have g1:=G.out.took hr ho
  have cc:=g1.fill.row.cell 1
  have zz:=g1.fill.row.frozen 1
  simp [recCells,Rc.nil] at cc
  have G2:=Lib.hid (g1.set 1 (.int .i64 t) rfl (r':={ Rc.nil with kind:=3,txn:=t }) rfl)
  clear g1 hr ho G hp ht HO2
  go_wp2_with fail
  generalize w3a.setCell ⟨q,1,none⟩ (.int .i64 t)=w3 at *
  clear cc zz
  have G:=G2
  clear G2
  refine (rdnum0 G.out.fill.rd).mono ?_
  intro e w4a ht
  rcases ht.int with ⟨hp,rfl,ho⟩ | ⟨p,l3,hp,rfl,hr,ho⟩
  ·rw [hp] at HO
   obtain rfl:o=none:=HO.out
   have W:=Lib.hid (G.out.gone (only2 (q:=q) ho))
   clear ho HO hp G ht
   go_wp2
   exact ⟨rfl,rfl,W.out⟩
  have HO2:=HO.out
  rw [hp,Option.bind_some] at HO2
  dsimp only at HO2
  replace HO:=Lib.hid HO2
  have g1:=G.out.took hr ho
  have cc:=g1.fill.row.cell 4
  have zz:=g1.fill.row.frozen 4
  simp [recCells,Rc.nil] at cc
  have G2:=Lib.hid (g1.set 4 (.int .i64 p) rfl (r':={ Rc.nil with kind:=3,txn:=t,prev:=p }) rfl)
  clear g1 hr ho G hp ht HO2
  have c0:=G2.out.fill.row.cell 0
  simp [recCells] at c0
  have HO2:=HO.out
  rw [if_neg (by first | decide | simp),if_neg (by first | decide | simp)] at HO2
  subst HO2
  clear HO
  have LST:=Lib.hid (Lists.nil (w4a.setCell ⟨q,4,none⟩ (.int .i64 p)) { Rc.nil with kind:=3,txn:=t,prev:=p } rfl rfl)
  have G:=G2
  clear G2
  have row:=G.out.fill.row
  have box:=G.out.box
  have one:=LST.out.one
  have OV:=Lib.hid (G.out.over LST.out (New.nil _) (New.nil _) (fun b h=>by cases h) (fun b h=>by cases h))
  go_wp2_with (first
   | (refine wpList_load_row rfl 46 _ rfl q rfl 46 _ (0,0) _ row Tryz.underlying46 rfl (by kernel_rfl) ?_)
   | (refine wpList_store_row rfl 46 _ _ rfl w.heap.size _ rfl rfl 46 _ box (by kernel_rfl) rfl one ?_))
  exact bodyPost_ret (results_cell_row rfl _ _ w.heap.size 46 _ (0,0) _ rfl (box.setRow _) Tryz.underlying46 rfl (by kernel_rfl)) rfl ⟨_,_,rfl,OV.out⟩
 ·-- kind 4
  rw [if_pos (by first | decide | trivial | simp)] at HO
  go_wp2_with fail
  change Calls _ _ _ (w1.alloc (.cells (recCells { Rc.nil with kind:=4 } (.slice none 0 0) (.slice none 0 0)) 46)) _
  generalize w1.alloc (.cells (recCells { Rc.nil with kind:=4 } (.slice none 0 0) (.slice none 0 0)) 46)=w2 at *
  generalize w1.heap.size=q at *
  have G:=G0
  clear G0
  refine (rdnum1 G.out.fill.rd).mono ?_
  intro e w3a ht
  rcases ht.int with ⟨hp,rfl,ho⟩ | ⟨t,l2,hp,rfl,hr,ho⟩
  ·rw [hp] at HO
   obtain rfl:o=none:=HO.out
   have W:=Lib.hid (G.out.gone (only2 (q:=q) ho))
   clear ho HO hp G ht
   go_wp2
   exact ⟨rfl,rfl,W.out⟩
  have HO2:=HO.out
  rw [hp,Option.bind_some] at HO2
  dsimp only at HO2
  replace HO:=Lib.hid HO2
  have g1:=G.out.took hr ho
  have cc:=g1.fill.row.cell 1
  have zz:=g1.fill.row.frozen 1
  simp [recCells,Rc.nil] at cc
  have G2:=Lib.hid (g1.set 1 (.int .i64 t) rfl (r':={ Rc.nil with kind:=4,txn:=t }) rfl)
  clear g1 hr ho G hp ht HO2
  go_wp2_with fail
  generalize w3a.setCell ⟨q,1,none⟩ (.int .i64 t)=w3 at *
  clear cc zz
  have G:=G2
  clear G2
  refine (rdnum0 G.out.fill.rd).mono ?_
  intro e w4a ht
  rcases ht.int with ⟨hp,rfl,ho⟩ | ⟨p,l3,hp,rfl,hr,ho⟩
  ·rw [hp] at HO
   obtain rfl:o=none:=HO.out
   have W:=Lib.hid (G.out.gone (only2 (q:=q) ho))
   clear ho HO hp G ht
   go_wp2
   exact ⟨rfl,rfl,W.out⟩
  have HO2:=HO.out
  rw [hp,Option.bind_some] at HO2
  dsimp only at HO2
  replace HO:=Lib.hid HO2
  have g1:=G.out.took hr ho
  have cc:=g1.fill.row.cell 4
  have zz:=g1.fill.row.frozen 4
  simp [recCells,Rc.nil] at cc
  have G2:=Lib.hid (g1.set 4 (.int .i64 p) rfl (r':={ Rc.nil with kind:=4,txn:=t,prev:=p }) rfl)
  clear g1 hr ho G hp ht HO2
  have c0:=G2.out.fill.row.cell 0
  simp [recCells] at c0
  have HO2:=HO.out
  rw [if_neg (by first | decide | simp),if_neg (by first | decide | simp)] at HO2
  subst HO2
  clear HO
  have LST:=Lib.hid (Lists.nil (w4a.setCell ⟨q,4,none⟩ (.int .i64 p)) { Rc.nil with kind:=4,txn:=t,prev:=p } rfl rfl)
  have G:=G2
  clear G2
  have row:=G.out.fill.row
  have box:=G.out.box
  have one:=LST.out.one
  have OV:=Lib.hid (G.out.over LST.out (New.nil _) (New.nil _) (fun b h=>by cases h) (fun b h=>by cases h))
  go_wp2_with (first
   | (refine wpList_load_row rfl 46 _ rfl q rfl 46 _ (0,0) _ row Tryz.underlying46 rfl (by kernel_rfl) ?_)
   | (refine wpList_store_row rfl 46 _ _ rfl w.heap.size _ rfl rfl 46 _ box (by kernel_rfl) rfl one ?_))
  exact bodyPost_ret (results_cell_row rfl _ _ w.heap.size 46 _ (0,0) _ rfl (box.setRow _) Tryz.underlying46 rfl (by kernel_rfl)) rfl ⟨_,_,rfl,OV.out⟩
 ·-- kind 5
  rw [if_neg (by first | decide | simp),if_neg (by first | decide | simp)] at HO
  have HO2:=HO.out
  subst HO2
  clear HO
  have G:=G0
  clear G0
  have LST:=Lib.hid (Lists.nil (w1.alloc (.cells (recCells { Rc.nil with kind:=5 } (.slice none 0 0) (.slice none 0 0)) 46)) { Rc.nil with kind:=5 } rfl rfl)
  have row:=G.out.fill.row
  have box:=G.out.box
  have one:=LST.out.one
  have OV:=Lib.hid (G.out.over LST.out (New.nil _) (New.nil _) (fun b h=>by cases h) (fun b h=>by cases h))
  go_wp2_with (first
   | (refine wpList_load_row rfl 46 _ rfl w1.heap.size rfl 46 _ (0,0) _ row Tryz.underlying46 rfl (by kernel_rfl) ?_)
   | (refine wpList_store_row rfl 46 _ _ rfl w.heap.size _ rfl rfl 46 _ box (by kernel_rfl) rfl one ?_))
  exact bodyPost_ret (results_cell_row rfl _ _ w.heap.size 46 _ (0,0) _ rfl (box.setRow _) Tryz.underlying46 rfl (by kernel_rfl)) rfl ⟨_,_,rfl,OV.out⟩
 ·-- kind 6
  rw [if_neg (by first | decide | simp),if_pos (by first | trivial | simp)] at HO
  go_wp2_with fail
  change Calls _ _ _ (w1.alloc (.cells (recCells { Rc.nil with kind:=6 } (.slice none 0 0) (.slice none 0 0)) 46)) _
  generalize w1.alloc (.cells (recCells { Rc.nil with kind:=6 } (.slice none 0 0) (.slice none 0 0)) 46)=w2 at *
  generalize w1.heap.size=q at *
  have G:=G0
  clear G0
  have HO2:=HO.out
  refine (tables_any G.out.fill o HO2).mono ?_
  clear HO
  intro e w7 ht
  cases o with
  | none =>
    obtain ⟨rfl,ho⟩:=ht
    have W:=Lib.hid (G.out.gone ho)
    clear ho G HO2
    go_wp2
    exact ⟨rfl,rfl,W.out⟩
  | some x =>
    obtain ⟨r,l7⟩:=x
    obtain ⟨rfl,vt,vp,hf,hl,ho,nt,np⟩:=ht
    have LST:=Lib.hid hl
    have hws:=Lib.hid G.out.only.size
    have G2:=Lib.hid (G.out.step hf ho)
    have hlt:=G.out.box.lt
    have NT:=Lib.hid nt
    have NP:=Lib.hid np
    clear hf hl ho G HO2 nt np
    have G:=G2
    clear G2
    have row:=G.out.fill.row
    have box:=G.out.box
    have one:=LST.out.one
    have OV:=Lib.hid (G.out.over LST.out (NT.out.mono hws.out) (NP.out.mono hws.out) (fun b h e=>by have:=NT.out b h; omega) (fun b h e=>by have:=NP.out b h; omega))
    go_wp2_with (first
     | (refine wpList_load_row rfl 46 _ rfl q rfl 46 _ (0,0) _ row Tryz.underlying46 rfl (by kernel_rfl) ?_)
     | (refine wpList_store_row rfl 46 _ _ rfl w.heap.size _ rfl rfl 46 _ box (by kernel_rfl) rfl one ?_))
    exact bodyPost_ret (results_cell_row rfl _ _ w.heap.size 46 _ (0,0) _ rfl (box.setRow _) Tryz.underlying46 rfl (by kernel_rfl)) rfl ⟨_,_,rfl,OV.out⟩
end Go.Proofs.YthkbcfhjmnpggaaGreat

namespace Go.Proofs.YthkbcfhjmnpggaaGreat
open Go.RowKit
theorem catch_panicking (p:Addr) (x:Int) (u:TypeId) (pv:Value) (older:List PanicEntry) (w:World) (hc:w.cell? p=some (.int .i64 x)) (hz:w.frozen? p=false) :
 CallsD Tryz.prog 100 #[.pointer (some p)] (.panicking ({ v:=.iface u pv,recovered:=false }::older)) w fun e u' w' =>
  e=.returned (.tuple #[])∧u' = .panicking ({ v:=.iface u pv,recovered:=true }::older)∧w' = w.setCell p (.int .i64 3):=by
 refine callsD_of_wpS Tryz.func100 rfl fun c₀ cs hu=>?_
 apply wpS_seq
 apply wpS_region
 simp [wpOpsS,go_sem,recoverD,hu,Tryz.ntmps100,Exit.thenS]
 refine wpS_cond (t:=true) (by simp [Act.eval,Array.replicate]) ?_
 simp only [if_true]
 apply wpS_region
 simp [wpOpsS,go_sem,hc,hz,bodyPostS,results,Tryz.results100]
theorem catch_idle (p:Addr) (w:World) :
 CallsD Tryz.prog 100 #[.pointer (some p)] .returning w fun e u' w'=>e=.returned (.tuple #[])∧u' = .returning∧w' = w:=by
 refine callsD_of_wpS Tryz.func100 rfl fun c₀ cs hu=>?_
 apply wpS_seq
 apply wpS_region
 simp [wpOpsS,go_sem,recoverD,hu,Tryz.ntmps100,Exit.thenS]
 refine wpS_cond (t:=false) (by simp [Act.eval,Array.replicate]) ?_
 simp only [Bool.false_eq_true,if_false]
 refine wpS_of_wp (wp_skip ?_)
 cases c₀
 simp_all [bodyPostS,results,Tryz.results100]
def readOut (s:ByteArray):Option (Rc × List UInt8)→Rc × Int × Int
 | some (r,l)=>(r,(s.size:Int) - l.length,0)
 | none=>(.nil,0,3)
def readR (s:ByteArray) (at_:Int):Rc × Int × Int :=
 if at_ < 0∨(s.size:Int) < at_ then (.nil,0,2) else readOut s (recP (s.data.toList.drop at_.toNat))
def Reads3 (w:World) (x:Rc × Int × Int) (e:Ending) (w':World):Prop :=
 ∃ v,e=.returned (.tuple #[v,.int .i64 x.2.1,.int .i64 x.2.2])∧IsRec w' v x.1∧Below w.heap.size w w'
def Reads3N (w:World) (x:Rc × Int × Int) (e:Ending) (w':World):Prop :=
 ∃ vt vp,e=.returned (.tuple #[recV x.1 vt vp,.int .i64 x.2.1,.int .i64 x.2.2])∧Lists w' x.1 vt vp∧New w vt∧New w vp∧Below w.heap.size w w'
theorem Reads3N.plain {w:World} {x:Rc × Int × Int} {e:Ending} {w':World} (h:Reads3N w x e w'):Reads3 w x e w':=by
 obtain ⟨vt,vp,h1,h2,_,_,h5⟩:=h
 exact ⟨_,h1,⟨vt,vp,rfl,h2⟩,h5⟩
theorem results_three {P:Program} {fn:Func} {p u q:Tmp} {ty tz:TypeId} (h:fn.results=#[.cell p ty,.tmp u,.cell q tz]) (tmps:Array Value) (w:World) (g g2:Nat) (t:TypeId) (cs:Array Value) (d:TypeDesc) (v:Value)
 (hp:tmps.getD p undef=.pointer (some ⟨g,0,none⟩)) (hg:Blk w g t cs)
 (hu:P.underlying ty=some d) (hd:(match d with | .struct _ | .array _ _=>true | _=>false)=true) (hi:(P.info? ty).map (·.size)=some cs.size)
 (hq:tmps.getD q undef=.pointer (some ⟨g2,0,none⟩)) (hz:P.underlying tz=some (.int .i64)) (hv:w.cell? ⟨g2,0,none⟩=some v) :
 (results fn tmps).run P w=.ok (.tuple #[.agg cs,tmps.getD u undef,v]) w:=by
 have hp':tmps[p]?.getD undef=.pointer (some ⟨g,0,none⟩):=by simpa using hp
 have hq':tmps[q]?.getD undef=.pointer (some ⟨g2,0,none⟩):=by simpa using hq
 have h1:(loadVar tz ⟨g2,0,none⟩).run P w=.ok v w:=by
  simp [loadVar,isAgg,run_underlying hz,go_sem,hv]
 simp [results,h,hp',hq',asAddr,run_loadVar_row w g t ty cs (0,0) d hg hu hd hi,h1]
set_option maxRecDepth 100000 in
set_option maxHeartbeats 4000000 in
theorem read_range (s:ByteArray) (at_:Int) (w:World) (h:at_ < 0∨(s.size:Int) < at_) :
 Calls Tryz.prog 68 #[.string s,.int .i64 at_] w (Reads3N w (readR s at_)):=by
 unfold readR
 rw [if_pos h]
 have hmf:∀ (fn:Fn) (first cap:Array Value) (w:World),(Instr.makeFunc fn first cap).run Tryz.prog w=.ok (.func fn first cap) w:=fun _ _ _ _=>rfl
 go_enter_defers Tryz.func68,Tryz.ntmps68
 go_wp2
 all_goals
  refine ⟨_,results_three rfl _ _ w.heap.size (w.heap.size+1) 46 (recCells .nil (.slice none 0 0) (.slice none 0 0)) _ (.int .i64 2) rfl ((Blk.new _ _ _).alloc _) Tryz.underlying46 rfl (by kernel_rfl) rfl Tryz.underlying24 ?_,?_⟩
  ·have:=(Blk.new (w.alloc (.cells (recCells .nil (.slice none 0 0) (.slice none 0 0)) 46)) 24 #[.int .i64 2]).cell 0
   rw [World.size_alloc] at this
   exact this
  · exact ⟨_,_,rfl,Lists.nil _ _ rfl rfl,New.nil _,New.nil _,((Below.refl _ _).alloc (Nat.le_refl _) _).alloc (by simp) _⟩
theorem setRow_same {w:World} {g t:Nat} {cs:Array Value} (h:Blk w g t cs):Below w.heap.size w (w.setRow g cs):=by
 have hb:=h.setRow cs
 refine ⟨rfl,rfl,rfl,by simp [World.setRow],fun b _=>?_⟩
 by_cases e:b=g
 · subst e; exact hb.trans h.symm
 · exact setRow_other w g b cs e
set_option maxRecDepth 100000 in
set_option maxHeartbeats 4000000 in
theorem read_in (s:ByteArray) (k:Nat) (w:World) (hs:s.size≤maxLen) (h:k≤s.size) (o:Option (Rc × List UInt8)) (ho:o=recP (s.data.toList.drop k)) :
 Calls Tryz.prog 68 #[.string s,.int .i64 k] w (Reads3N w (readOut s o)):=by
 have HS:=Lib.hid hs
 have HO:=Lib.hid ho
 unfold maxLen at hs
 clear ho
 have hmf:∀ (fn:Fn) (first cap:Array Value) (w:World),(Instr.makeFunc fn first cap).run Tryz.prog w=.ok (.func fn first cap) w:=fun _ _ _ _=>rfl
 go_enter_defers Tryz.func68,Tryz.ntmps68
 go_wp2_with fail
 change Calls _ _ _ (((w.alloc (.cells (recCells .nil (.slice none 0 0) (.slice none 0 0)) 46)).alloc (.cells #[.int .i64 0] 24)).alloc (.cells #[.string s,.int .i64 k] 167)) _
 have a1:=(Blk.new w 46 (recCells .nil (.slice none 0 0) (.slice none 0 0)))
 have a2:=(Blk.new (w.alloc (.cells (recCells .nil (.slice none 0 0) (.slice none 0 0)) 46)) 24 #[.int .i64 0])
 have a3:=(Blk.new ((w.alloc (.cells (recCells .nil (.slice none 0 0) (.slice none 0 0)) 46)).alloc (.cells #[.int .i64 0] 24)) 167 #[.string s,.int .i64 k])
 have hb:=(((Below.refl w.heap.size w).alloc (Nat.le_refl _) (.cells (recCells .nil (.slice none 0 0) (.slice none 0 0)) 46)).alloc (by simp) (.cells #[.int .i64 0] 24)).alloc (by simp; omega) (.cells #[.string s,.int .i64 k] 167)
 replace a1:=(a1.alloc (.cells #[.int .i64 0] 24)).alloc (.cells #[.string s,.int .i64 k] 167)
 replace a2:=a2.alloc (.cells #[.string s,.int .i64 k] 167)
 simp only [World.size_alloc] at a2 a3
 generalize ((w.alloc (.cells (recCells .nil (.slice none 0 0) (.slice none 0 0)) 46)).alloc (.cells #[.int .i64 0] 24)).alloc (.cells #[.string s,.int .i64 k] 167)=w0 at *
 refine (record_any (o:=o) ⟨k,h,HS.out,rfl,a3⟩ HO.out).mono ?_
 intro e w1 hg
 cases o with
 | none =>
   obtain ⟨rfl,ho⟩:=hg
   have b1:=ho.blk a1 (by show ¬ w.heap.size=_; omega)
   have b2:=ho.blk a2 (by show ¬ w.heap.size+1=_; omega)
   have c2:=b2.cell 0
   have f2:=b2.frozen 0
   simp at c2
   have B:=Lib.hid (ho.below hb (by have:=a3.lt; omega) (fun b hb=>by show w.heap.size≤b; have:b=w.heap.size+1+1:=hb; omega))
   clear a1 a2 a3 ho hb
   unfold gaveUp
   go_wp2_with fail
   refine leaves_cons (f:=100) (args:=#[.pointer (some ⟨w.heap.size+1,0,none⟩)]) (by simp) (by simp [go_sem]) ?_
   refine (catch_panicking ⟨w.heap.size+1,0,none⟩ 0 _ _ [] _ c2 f2).mono ?_
   rintro e u' w'' ⟨rfl,rfl,rfl⟩
   refine ⟨_,results_three rfl _ _ w.heap.size (w.heap.size+1) 46 (recCells .nil (.slice none 0 0) (.slice none 0 0)) _ (.int .i64 3) rfl (b1.far (by show w.heap.size≠w.heap.size+1; omega) _) Tryz.underlying46 rfl (by kernel_rfl) rfl Tryz.underlying24 ?_,?_⟩
   · exact (b2.set 0 _).cell 0
   · exact ⟨_,_,rfl,Lists.nil _ _ rfl rfl,New.nil _,New.nil _,B.out.setCell (by show w.heap.size≤w.heap.size+1; omega) _⟩
 | some x =>
   obtain ⟨r,l⟩:=x
   obtain ⟨vt,vp,rfl,hl,hr,ho,nt,np⟩:=hg
   have NT2:=Lib.hid (nt.mono hb.size)
   have NP2:=Lib.hid (np.mono hb.size)
   have b1:=ho.blk a1 (by show ¬ w.heap.size=_; omega)
   have b2:=ho.blk a2 (by show ¬ w.heap.size+1=_; omega)
   have B:=Lib.hid (ho.below hb (by have:=a3.lt; omega) (fun b hb=>by show w.heap.size≤b; have:b=w.heap.size+1+1:=hb; omega))
   have one:=hl.one
   go_wp2_with (refine wpList_store_row rfl 46 _ _ rfl w.heap.size _ rfl rfl 46 _ b1 (by kernel_rfl) rfl one ?_)
   obtain ⟨k',hk',_,hl',a3'⟩:=hr
   have hkl:(k':Int)=(s.size:Int) - l.length:=by
    rw [hl',List.length_drop]
    have:s.data.toList.length=s.size:=rfl
    omega
   have r1:=b1.setRow (recCells r vt vp)
   have r2:=b2.farRow (k:=w.heap.size) (by omega) (recCells r vt vp)
   have r3:=a3'.farRow (k:=w.heap.size) (by omega) (recCells r vt vp)
   have hs1:Only (· = w.heap.size) w1 (w1.setRow w.heap.size (recCells r vt vp)):=(Only.refl (· = w.heap.size) w1).setRow (g:=w.heap.size) (.inl rfl) _
   have hlt:=a3.lt
   have hl2:=hl.keepS hs1 (fun b h e=>by have:=nt b h; have:b=w.heap.size:=e; omega) (fun b h e=>by have:=np b h; have:b=w.heap.size:=e; omega)
   have B2:=hs1.below B.out (B.out.size) (fun b hb=>by have:b=w.heap.size:=hb; omega)
   clear hs1 b1 b2 a3' ho hl a1 a2 a3 hb B HO
   generalize w1.setRow w.heap.size (recCells r vt vp)=w2 at *
   have d1:=r3.cell 1
   simp at d1
   have z1:=r2.frozen 0
   have d2:=r2.cell 0
   simp at d2
   have HKL:=Lib.hid hkl
   clear hkl hl'
   refine' wp_region_conf 4 [.is _,.is _,.is _,.is undef] (by kernel_rfl) (by kernel_rfl) (by kernel_rfl) (by kernel_rfl) rfl ?main
   case main =>
    iterate 3
     refine obs_is (fun w3 hE2 _=>?_) ?_
     ·have q1:=r1.drew.keep hE2 r1.lt
      have q3:=r3.drew.keep hE2 r3.lt
      have e1:=q3.cell 1
      simp at e1
      clear q3
      go_wp2_with (refine wpList_load_row rfl 46 _ rfl w.heap.size rfl 46 _ (0,0) _ q1 Tryz.underlying46 rfl (by kernel_rfl) ?_)
      exact post_is (Below.refl _ _)
     simp only [Act.put,sA,sB,sC]
    refine obs_is (fun w3 hE2 _=>?_) ?_
    ·have q1:=r1.drew.keep hE2 r1.lt
     go_wp2_with (refine wpList_store_row rfl 46 _ _ rfl w.heap.size _ rfl rfl 46 _ q1 (by kernel_rfl) rfl one ?_)
     exact post_is (setRow_same q1)
    simp only [Act.put]
    refine obs_end fun w3 hE3 _=>?_
    have p1:=r1.drew.keep hE3 r1.lt
    have p2:=r2.drew.keep hE3 r2.lt
    have hl4:=hl2.keep (w':=w3) ⟨hE3.os,hE3.tape,hE3.output,hE3.size,hE3.block⟩
    have B4:Below w.heap.size w w3:=B2.trans ⟨hE3.os,hE3.tape,hE3.output,hE3.size,fun b hb=>hE3.block b (by have:=B2.size; show b < w2.heap.size; omega)⟩
    clear hE3 r1 r2 r3 d1 d2 z1 hl2 B2
    have z1:=p2.frozen 0
    have d2:=p2.cell 0
    simp at d2
    change wpList _ _ _ _ _ _
    have HL:=Lib.hid hl4
    have HB:=Lib.hid B4
    have NT:=Lib.hid nt
    have NP:=Lib.hid np
    clear hl4 B4 nt np
    go_wp2
    refine leaves_cons (f:=100) (args:=#[.pointer (some ⟨w.heap.size+1,0,none⟩)]) (by simp) (by simp [go_sem]) ?_
    refine (catch_idle ⟨w.heap.size+1,0,none⟩ _).mono ?_
    rintro e u' w'' ⟨rfl,rfl,rfl⟩
    refine ⟨_,results_three rfl _ _ w.heap.size (w.heap.size+1) 46 (recCells r vt vp) _ (.int .i64 0) rfl (p1.far (by show w.heap.size≠w.heap.size+1; omega) _) Tryz.underlying46 rfl (by kernel_rfl) rfl Tryz.underlying24 ?_,?_⟩
    · exact (p2.set 0 _).cell 0
    ·refine ⟨vt,vp,?_,?_,NT2.out,NP2.out,HB.out.setCell (by show w.heap.size≤w.heap.size+1; omega) _⟩
     ·show Ending.returned (.tuple #[.agg (recCells r vt vp),.int .i64 (k':Int),.int .i64 0])=_
      rw [HKL.out]
      rfl
     ·refine HL.out.keepS (S:=(· = w.heap.size+1)) ((Only.refl (· = w.heap.size+1) w3).set (p:=⟨w.heap.size+1,0,none⟩) (.inl rfl) _) ?_ ?_
      · exact fun b hb e=>by have:=NT.out b hb; have:b=w.heap.size+1:=e; omega
      · exact fun b hb e=>by have:=NP.out b hb; have:b=w.heap.size+1:=e; omega
theorem rdRead_new (s:ByteArray) (at_:Int) (w:World) (hs:s.size≤maxLen):Calls Tryz.prog 68 #[.string s,.int .i64 at_] w (Reads3N w (readR s at_)):=by
 by_cases h:at_ < 0∨(s.size:Int) < at_
 · exact read_range s at_ w h
 ·obtain ⟨k,rfl⟩:=Int.eq_ofNat_of_zero_le (show 0≤at_ by omega)
  have:=read_in s k w hs (by omega) _ rfl
  unfold readR
  rw [if_neg h]
  exact this
theorem rdRead_any (s:ByteArray) (at_:Int) (w:World) (hs:s.size≤maxLen):Calls Tryz.prog 68 #[.string s,.int .i64 at_] w (Reads3 w (readR s at_)) :=
 (rdRead_new s at_ w hs).mono fun _ _ h=>h.plain
end Go.Proofs.YthkbcfhjmnpggaaGreat

namespace Go.Proofs.YthkbcfhjmnpggaaGreat
open Go.RowKit
theorem wpList_load_rowG {P:Program} {ops:Array Oper} {rest:List Oper} {o:Oper} {a:Act} {w:World} {Q:Exit→Act→World→Prop} (hw:Region.wanted o (yielded ops a.tmps)=true) (ty:TypeId) (x:Operand) (ho:o.op=.load ty x)
 (g:Nat) (hx:a.eval x=.pointer (some ⟨g,0,none⟩)) (t:TypeId) (cs:Array Value) (fr:Nat × Nat) (d:TypeDesc) (hg:w.heap[g]? = some (.cells cs t fr))
 (hu:P.underlying ty=some d) (hd:(match d with | .struct _ | .array _ _=>true | _=>false)=true) (hi:(P.info? ty).map (·.size)=some cs.size)
 (h:wpList P ops Q rest (a.put o.dst (.agg cs)) w):wpList P ops Q (o::rest) a w:=by
 unfold wpList
 rw [if_pos hw]
 refine .inl ?_
 exact wp_load_row ty x ho g hx t cs fr d hg hu hd hi h
end Go.Proofs.YthkbcfhjmnpggaaGreat
