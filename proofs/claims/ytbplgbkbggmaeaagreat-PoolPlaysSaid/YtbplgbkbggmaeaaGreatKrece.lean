/- Texts that belong together, joined: RecE, RecF, RecH, RecL, RecShort. -/
import Derived.Test.YtbplgbkbggmaeaaGreatKreca
import Derived.Tactics
import Derived.Tactics2
import Derived.Defers
import Derived.Recover
import Derived.Laws.Pointers
import Derived.Test.YtbplgbkbggmaeaaGreatKrec
import Derived.Test.YtbplgbkbggmaeaaGreatKreg
import Derived.Test.YtbplgbkbggmaeaaGreatKrecJ
namespace Go.Proofs.YtbplgbkbggmaeaaGreat
open Go.RowKit
def GotRec (w : World) (g : Nat) (s : ByteArray) (o : Option (Rc × List UInt8)) (e : Ending) (w' : World) : Prop :=
 match o with
 | some (r, l) => ∃ vt vp, e = .returned (recV r vt vp) ∧ Lists w' r vt vp ∧ Rd w' g s l ∧ Only (· = g) w w' ∧ New w vt ∧ New w vp
 | none => e = .panicked gaveUp ∧ Only (· = g) w w'
structure Reading (w wr : World) (g q : Nat) (s : ByteArray) (l : List UInt8) (r : Rc) (vt vp : Value) : Prop where
 fill : Fill wr g q s l r vt vp
 box : Blk wr w.heap.size 49 (recCells .nil (.slice none 0 0) (.slice none 0 0))
 only : Only (· = g) w wr
 old : g < w.heap.size
 new : w.heap.size < q
namespace Reading
variable {w wr w' : World} {g q : Nat} {s : ByteArray} {l l' : List UInt8} {r r' : Rc} {vt vp vt' vp' : Value}
theorem step (h : Reading w wr g q s l r vt vp) (hf : Fill w' g q s l' r' vt' vp') (ho : Only (Two g q) wr w') : Reading w w' g q s l' r' vt' vp' :=
 ⟨hf, ho.blk h.box (by have := h.old; have := h.new; rintro (e | e) <;> omega), h.only.and_ ho fun b hb => hb.elim .inl fun e => .inr (by have := h.new; omega), h.old, h.new⟩
theorem gone (h : Reading w wr g q s l r vt vp) (ho : Only (Two g q) wr w') : Only (· = g) w w' := h.only.and_ ho fun b hb => hb.elim .inl fun e => .inr (by have := h.new; omega)
theorem took (h : Reading w wr g q s l r vt vp) (hr : Rd w' g s l') (ho : Only (· = g) wr w') : Reading w w' g q s l' r vt vp := h.step (h.fill.took hr ho) (only2 ho)
theorem set (h : Reading w wr g q s l r vt vp) (i : Nat) (v : Value) {cs : Array Value} (hc : (recCells r vt vp).setIfInBounds i v = cs) (hcs : cs = recCells r' vt vp) : Reading w (wr.setCell ⟨q, i, none⟩ v) g q s l r' vt vp :=
 h.step (h.fill.set i v hc hcs) (only2set (Only.refl _ _) i v)
theorem over (h : Reading w wr g q s l r vt vp) (hl : Lists wr r vt vp) (ht : New w vt) (hp : New w vp) (h1 : ∀ b, vt.ownBlock = some b → b ≠ w.heap.size) (h2 : ∀ b, vp.ownBlock = some b → b ≠ w.heap.size) :
   Lists (wr.setRow w.heap.size (recCells r vt vp)) r vt vp ∧ Rd (wr.setRow w.heap.size (recCells r vt vp)) g s l ∧ Only (· = g) w (wr.setRow w.heap.size (recCells r vt vp)) ∧ New w vt ∧ New w vp := by
 have hs : Only (· = w.heap.size) wr (wr.setRow w.heap.size (recCells r vt vp)) := (Only.refl (· = w.heap.size) wr).setRow (g := w.heap.size) (.inl rfl) _
 obtain ⟨k, a, b, c, d⟩ := h.fill.rd
 exact ⟨hl.keepS hs h1 h2, ⟨k, a, b, c, d.farRow (by have := h.old; omega) _⟩, h.only.setRow (.inr (Nat.le_refl _)) _, ht, hp⟩
end Reading
set_option maxRecDepth 100000 in
set_option maxHeartbeats 8000000 in
theorem record_any {w : World} {g : Nat} {s : ByteArray} {l : List UInt8} (h : Rd w g s l) (o : Option (Rc × List UInt8)) (ho : o = recP l) :
   Calls Tryz.prog 108 #[.pointer (some ⟨g, 0, none⟩)] w (GotRec w g s o) := by
 unfold recP at ho
 have HO := Lib.hid ho
 have R0 := Lib.hid h
 clear ho h
 go_enter Tryz.func108, Tryz.ntmps108
 go_wp2_with fail
 have hr0 : Rd (w.alloc (.cells (recCells .nil (.slice none 0 0) (.slice none 0 0)) 49)) g s l := by
   obtain ⟨k, h1, h2, h3, h4⟩ := R0.out
   exact ⟨k, h1, h2, h3, h4.alloc _⟩
 have hg0 : g < w.heap.size := by
   obtain ⟨k, h1, h2, h3, h4⟩ := R0.out
   exact h4.lt
 have hbx := Blk.new w 49 (recCells .nil (.slice none 0 0) (.slice none 0 0))
 have ho0 := (Only.refl (· = g) w).alloc (.cells (recCells .nil (.slice none 0 0) (.slice none 0 0)) 49)
 change Calls _ _ _ (w.alloc (.cells (recCells .nil (.slice none 0 0) (.slice none 0 0)) 49)) _
 have hs0 : w.heap.size < (w.alloc (.cells (recCells .nil (.slice none 0 0) (.slice none 0 0)) 49)).heap.size := by simp
 generalize w.alloc (.cells (recCells .nil (.slice none 0 0) (.slice none 0 0)) 49) = w0 at *
 refine (small_any hr0 1 6).mono ?_
 intro e w1 ht
 rcases ht.int with ⟨hp, rfl, ho⟩ | ⟨k, l1, hp, rfl, hr, ho⟩
 · rw [hp] at HO
   obtain rfl : o = none := HO.out
   have W := Lib.hid (ho0.trans ho)
   clear ho HO hp ht hr0 R0 hbx ho0
   go_wp2
   exact ⟨rfl, rfl, W.out⟩
 have HO2 := HO.out
 rw [hp, Option.bind_some] at HO2
 dsimp only at HO2
 replace HO := Lib.hid HO2
 obtain ⟨_, k1, k2, _, _⟩ := smallP_some hp
 have G0 : Hid (Reading w (w1.alloc (.cells (recCells { Rc.nil with kind := k } (.slice none 0 0) (.slice none 0 0)) 49)) g w1.heap.size s l1 { Rc.nil with kind := k } (.slice none 0 0) (.slice none 0 0)) := by
   have h1 := hr
   obtain ⟨a, b, c, d, e⟩ := h1
   have hsz := ho.size
   exact ⟨⟨⟨a, b, c, d, e.alloc _⟩, Blk.new _ _ _, by have := e.lt; show w1.heap.size ≠ g; omega⟩, (ho.blk hbx (by show ¬ w.heap.size = g; omega)).alloc _, (ho0.trans ho).alloc _, hg0, by omega⟩
 clear hr0 hbx ho0 hr ho ht hp HO2 R0 hg0 hs0
 have hk : k = 1 ∨ k = 2 ∨ k = 3 ∨ k = 4 ∨ k = 5 ∨ k = 6 := by omega
 clear k1 k2
 rcases hk with rfl | rfl | rfl | rfl | rfl | rfl
 · -- kind 1
   rw [if_pos (by first | decide | trivial | simp)] at HO
   go_wp2_with fail
   change Calls _ _ _ (w1.alloc (.cells (recCells { Rc.nil with kind := 1 } (.slice none 0 0) (.slice none 0 0)) 49)) _
   generalize w1.alloc (.cells (recCells { Rc.nil with kind := 1 } (.slice none 0 0) (.slice none 0 0)) 49) = w2 at *
   generalize w1.heap.size = q at *
   have G := G0
   clear G0
   refine (rdnum1 G.out.fill.rd).mono ?_
   intro e w3a ht
   rcases ht.int with ⟨hp, rfl, ho⟩ | ⟨t, l2, hp, rfl, hr, ho⟩
   · rw [hp] at HO
     obtain rfl : o = none := HO.out
     have W := Lib.hid (G.out.gone (only2 (q := q) ho))
     clear ho HO hp G ht
     go_wp2
     exact ⟨rfl, rfl, W.out⟩
   have HO2 := HO.out
   rw [hp, Option.bind_some] at HO2
   dsimp only at HO2
   replace HO := Lib.hid HO2
   have g1 := G.out.took hr ho
   have cc := g1.fill.row.cell 1
   have zz := g1.fill.row.frozen 1
   simp [recCells, Rc.nil] at cc
   have G2 := Lib.hid (g1.set 1 (.int .i64 t) rfl (r' := { Rc.nil with kind := 1, txn := t }) rfl)
   clear g1 hr ho G hp ht HO2
   go_wp2_with fail
   generalize w3a.setCell ⟨q, 1, none⟩ (.int .i64 t) = w3 at *
   clear cc zz
   have G := G2
   clear G2
   refine (rdnum0 G.out.fill.rd).mono ?_
   intro e w4a ht
   rcases ht.int with ⟨hp, rfl, ho⟩ | ⟨p, l3, hp, rfl, hr, ho⟩
   · rw [hp] at HO
     obtain rfl : o = none := HO.out
     have W := Lib.hid (G.out.gone (only2 (q := q) ho))
     clear ho HO hp G ht
     go_wp2
     exact ⟨rfl, rfl, W.out⟩
   have HO2 := HO.out
   rw [hp, Option.bind_some] at HO2
   dsimp only at HO2
   replace HO := Lib.hid HO2
   have g1 := G.out.took hr ho
   have cc := g1.fill.row.cell 4
   have zz := g1.fill.row.frozen 4
   simp [recCells, Rc.nil] at cc
   have G2 := Lib.hid (g1.set 4 (.int .i64 p) rfl (r' := { Rc.nil with kind := 1, txn := t, prev := p }) rfl)
   clear g1 hr ho G hp ht HO2
   have c0 := G2.out.fill.row.cell 0
   simp [recCells] at c0
   go_wp2_with fail
   generalize w4a.setCell ⟨q, 4, none⟩ (.int .i64 p) = w4 at *
   clear cc zz
   have G := G2
   clear G2
   have HO2 := HO.out
   rw [if_neg (by first | decide | simp), if_pos (by first | trivial | simp)] at HO2
   refine (change_any G.out.fill o HO2).mono ?_
   clear HO
   intro e w7 ht
   cases o with
   | none =>
     obtain ⟨rfl, ho⟩ := ht
     have W := Lib.hid (G.out.gone ho)
     clear ho G HO2
     go_wp2
     exact ⟨rfl, rfl, W.out⟩
   | some x =>
     obtain ⟨r, l7⟩ := x
     obtain ⟨rfl, hf, ho⟩ := ht
     have hrows := changeP_rows HO2.symm
     have LST := Lib.hid (Lists.nil w7 r hrows.1 hrows.2)
     have G2 := Lib.hid (G.out.step hf ho)
     clear hf ho G HO2 hrows
     have G := G2
     clear G2
     have row := G.out.fill.row
     have box := G.out.box
     have one := LST.out.one
     have OV := Lib.hid (G.out.over LST.out (New.nil _) (New.nil _) (fun b h => by cases h) (fun b h => by cases h))
     go_wp2_with (first
       | (refine wpList_load_row rfl 49 _ rfl q rfl 49 _ (0, 0) _ row Tryz.underlying49 rfl (by kernel_rfl) ?_)
       | (refine wpList_store_row rfl 49 _ _ rfl w.heap.size _ rfl rfl 49 _ box (by kernel_rfl) rfl one ?_))
     exact bodyPost_ret (results_cell_row rfl _ _ w.heap.size 49 _ (0, 0) _ rfl (box.setRow _) Tryz.underlying49 rfl (by kernel_rfl)) rfl ⟨_, _, rfl, OV.out⟩
 · -- kind 2
   rw [if_pos (by first | decide | trivial | simp)] at HO
   go_wp2_with fail
   change Calls _ _ _ (w1.alloc (.cells (recCells { Rc.nil with kind := 2 } (.slice none 0 0) (.slice none 0 0)) 49)) _
   generalize w1.alloc (.cells (recCells { Rc.nil with kind := 2 } (.slice none 0 0) (.slice none 0 0)) 49) = w2 at *
   generalize w1.heap.size = q at *
   have G := G0
   clear G0
   refine (rdnum1 G.out.fill.rd).mono ?_
   intro e w3a ht
   rcases ht.int with ⟨hp, rfl, ho⟩ | ⟨t, l2, hp, rfl, hr, ho⟩
   · rw [hp] at HO
     obtain rfl : o = none := HO.out
     have W := Lib.hid (G.out.gone (only2 (q := q) ho))
     clear ho HO hp G ht
     go_wp2
     exact ⟨rfl, rfl, W.out⟩
   have HO2 := HO.out
   rw [hp, Option.bind_some] at HO2
   dsimp only at HO2
   replace HO := Lib.hid HO2
   have g1 := G.out.took hr ho
   have cc := g1.fill.row.cell 1
   have zz := g1.fill.row.frozen 1
   simp [recCells, Rc.nil] at cc
   have G2 := Lib.hid (g1.set 1 (.int .i64 t) rfl (r' := { Rc.nil with kind := 2, txn := t }) rfl)
   clear g1 hr ho G hp ht HO2
   go_wp2_with fail
   generalize w3a.setCell ⟨q, 1, none⟩ (.int .i64 t) = w3 at *
   clear cc zz
   have G := G2
   clear G2
   refine (rdnum0 G.out.fill.rd).mono ?_
   intro e w4a ht
   rcases ht.int with ⟨hp, rfl, ho⟩ | ⟨p, l3, hp, rfl, hr, ho⟩
   · rw [hp] at HO
     obtain rfl : o = none := HO.out
     have W := Lib.hid (G.out.gone (only2 (q := q) ho))
     clear ho HO hp G ht
     go_wp2
     exact ⟨rfl, rfl, W.out⟩
   have HO2 := HO.out
   rw [hp, Option.bind_some] at HO2
   dsimp only at HO2
   replace HO := Lib.hid HO2
   have g1 := G.out.took hr ho
   have cc := g1.fill.row.cell 4
   have zz := g1.fill.row.frozen 4
   simp [recCells, Rc.nil] at cc
   have G2 := Lib.hid (g1.set 4 (.int .i64 p) rfl (r' := { Rc.nil with kind := 2, txn := t, prev := p }) rfl)
   clear g1 hr ho G hp ht HO2
   have c0 := G2.out.fill.row.cell 0
   simp [recCells] at c0
   go_wp2_with fail
   generalize w4a.setCell ⟨q, 4, none⟩ (.int .i64 p) = w4 at *
   clear cc zz
   have G := G2
   clear G2
   rw [if_pos (by first | trivial | simp)] at HO
   refine (rdnum0 G.out.fill.rd).mono ?_
   intro e w5a ht
   rcases ht.int with ⟨hp, rfl, ho⟩ | ⟨n, l4, hp, rfl, hr, ho⟩
   · rw [hp] at HO
     obtain rfl : o = none := HO.out
     have W := Lib.hid (G.out.gone (only2 (q := q) ho))
     clear ho HO hp G ht
     go_wp2
     exact ⟨rfl, rfl, W.out⟩
   have HO2 := HO.out
   rw [hp, Option.bind_some] at HO2
   dsimp only at HO2
   replace HO := Lib.hid HO2
   have g1 := G.out.took hr ho
   have cc := g1.fill.row.cell 5
   have zz := g1.fill.row.frozen 5
   simp [recCells, Rc.nil] at cc
   have G2 := Lib.hid (g1.set 5 (.int .i64 n) rfl (r' := { Rc.nil with kind := 2, txn := t, prev := p, next := n }) rfl)
   clear g1 hr ho G hp ht HO2
   go_wp2_with fail
   generalize w5a.setCell ⟨q, 5, none⟩ (.int .i64 n) = w5 at *
   clear cc zz
   have G := G2
   clear G2
   have HO2 := HO.out
   refine (change_any G.out.fill o HO2).mono ?_
   clear HO
   intro e w7 ht
   cases o with
   | none =>
     obtain ⟨rfl, ho⟩ := ht
     have W := Lib.hid (G.out.gone ho)
     clear ho G HO2
     go_wp2
     exact ⟨rfl, rfl, W.out⟩
   | some x =>
     obtain ⟨r, l7⟩ := x
     obtain ⟨rfl, hf, ho⟩ := ht
     have hrows := changeP_rows HO2.symm
     have LST := Lib.hid (Lists.nil w7 r hrows.1 hrows.2)
     have G2 := Lib.hid (G.out.step hf ho)
     clear hf ho G HO2 hrows
     have G := G2
     clear G2
     have row := G.out.fill.row
     have box := G.out.box
     have one := LST.out.one
     have OV := Lib.hid (G.out.over LST.out (New.nil _) (New.nil _) (fun b h => by cases h) (fun b h => by cases h))
     go_wp2_with (first
       | (refine wpList_load_row rfl 49 _ rfl q rfl 49 _ (0, 0) _ row Tryz.underlying49 rfl (by kernel_rfl) ?_)
       | (refine wpList_store_row rfl 49 _ _ rfl w.heap.size _ rfl rfl 49 _ box (by kernel_rfl) rfl one ?_))
     exact bodyPost_ret (results_cell_row rfl _ _ w.heap.size 49 _ (0, 0) _ rfl (box.setRow _) Tryz.underlying49 rfl (by kernel_rfl)) rfl ⟨_, _, rfl, OV.out⟩
 · -- kind 3
   rw [if_pos (by first | decide | trivial | simp)] at HO
   go_wp2_with fail
   change Calls _ _ _ (w1.alloc (.cells (recCells { Rc.nil with kind := 3 } (.slice none 0 0) (.slice none 0 0)) 49)) _
   generalize w1.alloc (.cells (recCells { Rc.nil with kind := 3 } (.slice none 0 0) (.slice none 0 0)) 49) = w2 at *
   generalize w1.heap.size = q at *
   have G := G0
   clear G0
   refine (rdnum1 G.out.fill.rd).mono ?_
   intro e w3a ht
   rcases ht.int with ⟨hp, rfl, ho⟩ | ⟨t, l2, hp, rfl, hr, ho⟩
   · rw [hp] at HO
     obtain rfl : o = none := HO.out
     have W := Lib.hid (G.out.gone (only2 (q := q) ho))
     clear ho HO hp G ht
     go_wp2
     exact ⟨rfl, rfl, W.out⟩
   have HO2 := HO.out
   rw [hp, Option.bind_some] at HO2
   dsimp only at HO2
   replace HO := Lib.hid HO2
   have g1 := G.out.took hr ho
   have cc := g1.fill.row.cell 1
   have zz := g1.fill.row.frozen 1
   simp [recCells, Rc.nil] at cc
   have G2 := Lib.hid (g1.set 1 (.int .i64 t) rfl (r' := { Rc.nil with kind := 3, txn := t }) rfl)
   clear g1 hr ho G hp ht HO2
   go_wp2_with fail
   generalize w3a.setCell ⟨q, 1, none⟩ (.int .i64 t) = w3 at *
   clear cc zz
   have G := G2
   clear G2
   refine (rdnum0 G.out.fill.rd).mono ?_
   intro e w4a ht
   rcases ht.int with ⟨hp, rfl, ho⟩ | ⟨p, l3, hp, rfl, hr, ho⟩
   · rw [hp] at HO
     obtain rfl : o = none := HO.out
     have W := Lib.hid (G.out.gone (only2 (q := q) ho))
     clear ho HO hp G ht
     go_wp2
     exact ⟨rfl, rfl, W.out⟩
   have HO2 := HO.out
   rw [hp, Option.bind_some] at HO2
   dsimp only at HO2
   replace HO := Lib.hid HO2
   have g1 := G.out.took hr ho
   have cc := g1.fill.row.cell 4
   have zz := g1.fill.row.frozen 4
   simp [recCells, Rc.nil] at cc
   have G2 := Lib.hid (g1.set 4 (.int .i64 p) rfl (r' := { Rc.nil with kind := 3, txn := t, prev := p }) rfl)
   clear g1 hr ho G hp ht HO2
   have c0 := G2.out.fill.row.cell 0
   simp [recCells] at c0
   have HO2 := HO.out
   rw [if_neg (by first | decide | simp), if_neg (by first | decide | simp)] at HO2
   subst HO2
   clear HO
   have LST := Lib.hid (Lists.nil (w4a.setCell ⟨q, 4, none⟩ (.int .i64 p)) { Rc.nil with kind := 3, txn := t, prev := p } rfl rfl)
   have G := G2
   clear G2
   have row := G.out.fill.row
   have box := G.out.box
   have one := LST.out.one
   have OV := Lib.hid (G.out.over LST.out (New.nil _) (New.nil _) (fun b h => by cases h) (fun b h => by cases h))
   go_wp2_with (first
     | (refine wpList_load_row rfl 49 _ rfl q rfl 49 _ (0, 0) _ row Tryz.underlying49 rfl (by kernel_rfl) ?_)
     | (refine wpList_store_row rfl 49 _ _ rfl w.heap.size _ rfl rfl 49 _ box (by kernel_rfl) rfl one ?_))
   exact bodyPost_ret (results_cell_row rfl _ _ w.heap.size 49 _ (0, 0) _ rfl (box.setRow _) Tryz.underlying49 rfl (by kernel_rfl)) rfl ⟨_, _, rfl, OV.out⟩
 · -- kind 4
   rw [if_pos (by first | decide | trivial | simp)] at HO
   go_wp2_with fail
   change Calls _ _ _ (w1.alloc (.cells (recCells { Rc.nil with kind := 4 } (.slice none 0 0) (.slice none 0 0)) 49)) _
   generalize w1.alloc (.cells (recCells { Rc.nil with kind := 4 } (.slice none 0 0) (.slice none 0 0)) 49) = w2 at *
   generalize w1.heap.size = q at *
   have G := G0
   clear G0
   refine (rdnum1 G.out.fill.rd).mono ?_
   intro e w3a ht
   rcases ht.int with ⟨hp, rfl, ho⟩ | ⟨t, l2, hp, rfl, hr, ho⟩
   · rw [hp] at HO
     obtain rfl : o = none := HO.out
     have W := Lib.hid (G.out.gone (only2 (q := q) ho))
     clear ho HO hp G ht
     go_wp2
     exact ⟨rfl, rfl, W.out⟩
   have HO2 := HO.out
   rw [hp, Option.bind_some] at HO2
   dsimp only at HO2
   replace HO := Lib.hid HO2
   have g1 := G.out.took hr ho
   have cc := g1.fill.row.cell 1
   have zz := g1.fill.row.frozen 1
   simp [recCells, Rc.nil] at cc
   have G2 := Lib.hid (g1.set 1 (.int .i64 t) rfl (r' := { Rc.nil with kind := 4, txn := t }) rfl)
   clear g1 hr ho G hp ht HO2
   go_wp2_with fail
   generalize w3a.setCell ⟨q, 1, none⟩ (.int .i64 t) = w3 at *
   clear cc zz
   have G := G2
   clear G2
   refine (rdnum0 G.out.fill.rd).mono ?_
   intro e w4a ht
   rcases ht.int with ⟨hp, rfl, ho⟩ | ⟨p, l3, hp, rfl, hr, ho⟩
   · rw [hp] at HO
     obtain rfl : o = none := HO.out
     have W := Lib.hid (G.out.gone (only2 (q := q) ho))
     clear ho HO hp G ht
     go_wp2
     exact ⟨rfl, rfl, W.out⟩
   have HO2 := HO.out
   rw [hp, Option.bind_some] at HO2
   dsimp only at HO2
   replace HO := Lib.hid HO2
   have g1 := G.out.took hr ho
   have cc := g1.fill.row.cell 4
   have zz := g1.fill.row.frozen 4
   simp [recCells, Rc.nil] at cc
   have G2 := Lib.hid (g1.set 4 (.int .i64 p) rfl (r' := { Rc.nil with kind := 4, txn := t, prev := p }) rfl)
   clear g1 hr ho G hp ht HO2
   have c0 := G2.out.fill.row.cell 0
   simp [recCells] at c0
   have HO2 := HO.out
   rw [if_neg (by first | decide | simp), if_neg (by first | decide | simp)] at HO2
   subst HO2
   clear HO
   have LST := Lib.hid (Lists.nil (w4a.setCell ⟨q, 4, none⟩ (.int .i64 p)) { Rc.nil with kind := 4, txn := t, prev := p } rfl rfl)
   have G := G2
   clear G2
   have row := G.out.fill.row
   have box := G.out.box
   have one := LST.out.one
   have OV := Lib.hid (G.out.over LST.out (New.nil _) (New.nil _) (fun b h => by cases h) (fun b h => by cases h))
   go_wp2_with (first
     | (refine wpList_load_row rfl 49 _ rfl q rfl 49 _ (0, 0) _ row Tryz.underlying49 rfl (by kernel_rfl) ?_)
     | (refine wpList_store_row rfl 49 _ _ rfl w.heap.size _ rfl rfl 49 _ box (by kernel_rfl) rfl one ?_))
   exact bodyPost_ret (results_cell_row rfl _ _ w.heap.size 49 _ (0, 0) _ rfl (box.setRow _) Tryz.underlying49 rfl (by kernel_rfl)) rfl ⟨_, _, rfl, OV.out⟩
 · -- kind 5
   rw [if_neg (by first | decide | simp), if_neg (by first | decide | simp)] at HO
   have HO2 := HO.out
   subst HO2
   clear HO
   have G := G0
   clear G0
   have LST := Lib.hid (Lists.nil (w1.alloc (.cells (recCells { Rc.nil with kind := 5 } (.slice none 0 0) (.slice none 0 0)) 49)) { Rc.nil with kind := 5 } rfl rfl)
   have row := G.out.fill.row
   have box := G.out.box
   have one := LST.out.one
   have OV := Lib.hid (G.out.over LST.out (New.nil _) (New.nil _) (fun b h => by cases h) (fun b h => by cases h))
   go_wp2_with (first
     | (refine wpList_load_row rfl 49 _ rfl w1.heap.size rfl 49 _ (0, 0) _ row Tryz.underlying49 rfl (by kernel_rfl) ?_)
     | (refine wpList_store_row rfl 49 _ _ rfl w.heap.size _ rfl rfl 49 _ box (by kernel_rfl) rfl one ?_))
   exact bodyPost_ret (results_cell_row rfl _ _ w.heap.size 49 _ (0, 0) _ rfl (box.setRow _) Tryz.underlying49 rfl (by kernel_rfl)) rfl ⟨_, _, rfl, OV.out⟩
 · -- kind 6
   rw [if_neg (by first | decide | simp), if_pos (by first | trivial | simp)] at HO
   go_wp2_with fail
   change Calls _ _ _ (w1.alloc (.cells (recCells { Rc.nil with kind := 6 } (.slice none 0 0) (.slice none 0 0)) 49)) _
   generalize w1.alloc (.cells (recCells { Rc.nil with kind := 6 } (.slice none 0 0) (.slice none 0 0)) 49) = w2 at *
   generalize w1.heap.size = q at *
   have G := G0
   clear G0
   have HO2 := HO.out
   refine (tables_any G.out.fill o HO2).mono ?_
   clear HO
   intro e w7 ht
   cases o with
   | none =>
     obtain ⟨rfl, ho⟩ := ht
     have W := Lib.hid (G.out.gone ho)
     clear ho G HO2
     go_wp2
     exact ⟨rfl, rfl, W.out⟩
   | some x =>
     obtain ⟨r, l7⟩ := x
     obtain ⟨rfl, vt, vp, hf, hl, ho, nt, np⟩ := ht
     have LST := Lib.hid hl
     have hws := Lib.hid G.out.only.size
     have G2 := Lib.hid (G.out.step hf ho)
     have hlt := G.out.box.lt
     have NT := Lib.hid nt
     have NP := Lib.hid np
     clear hf hl ho G HO2 nt np
     have G := G2
     clear G2
     have row := G.out.fill.row
     have box := G.out.box
     have one := LST.out.one
     have OV := Lib.hid (G.out.over LST.out (NT.out.mono hws.out) (NP.out.mono hws.out) (fun b h e => by have := NT.out b h; omega) (fun b h e => by have := NP.out b h; omega))
     go_wp2_with (first
       | (refine wpList_load_row rfl 49 _ rfl q rfl 49 _ (0, 0) _ row Tryz.underlying49 rfl (by kernel_rfl) ?_)
       | (refine wpList_store_row rfl 49 _ _ rfl w.heap.size _ rfl rfl 49 _ box (by kernel_rfl) rfl one ?_))
     exact bodyPost_ret (results_cell_row rfl _ _ w.heap.size 49 _ (0, 0) _ rfl (box.setRow _) Tryz.underlying49 rfl (by kernel_rfl)) rfl ⟨_, _, rfl, OV.out⟩
end Go.Proofs.YtbplgbkbggmaeaaGreat

namespace Go.Proofs.YtbplgbkbggmaeaaGreat
open Go.RowKit
theorem catch_panicking (p : Addr) (x : Int) (u : TypeId) (pv : Value) (older : List PanicEntry) (w : World) (hc : w.cell? p = some (.int .i64 x)) (hz : w.frozen? p = false) :
   CallsD Tryz.prog 107 #[.pointer (some p)] (.panicking ({ v := .iface u pv, recovered := false } :: older)) w fun e u' w' =>
     e = .returned (.tuple #[]) ∧ u' = .panicking ({ v := .iface u pv, recovered := true } :: older) ∧ w' = w.setCell p (.int .i64 3) := by
 refine callsD_of_wpS Tryz.func107 rfl fun c₀ cs hu => ?_
 apply wpS_seq
 apply wpS_region
 simp [wpOpsS, go_sem, recoverD, hu, Tryz.ntmps107, Exit.thenS]
 refine wpS_cond (t := true) (by simp [Act.eval, Array.replicate]) ?_
 simp only [if_true]
 apply wpS_region
 simp [wpOpsS, go_sem, hc, hz, bodyPostS, results, Tryz.results107]
theorem catch_idle (p : Addr) (w : World) :
   CallsD Tryz.prog 107 #[.pointer (some p)] .returning w fun e u' w' => e = .returned (.tuple #[]) ∧ u' = .returning ∧ w' = w := by
 refine callsD_of_wpS Tryz.func107 rfl fun c₀ cs hu => ?_
 apply wpS_seq
 apply wpS_region
 simp [wpOpsS, go_sem, recoverD, hu, Tryz.ntmps107, Exit.thenS]
 refine wpS_cond (t := false) (by simp [Act.eval, Array.replicate]) ?_
 simp only [Bool.false_eq_true, if_false]
 refine wpS_of_wp (wp_skip ?_)
 cases c₀
 simp_all [bodyPostS, results, Tryz.results107]
def readOut (s : ByteArray) : Option (Rc × List UInt8) → Rc × Int × Int
 | some (r, l) => (r, (s.size : Int) - l.length, 0)
 | none => (.nil, 0, 3)
def readR (s : ByteArray) (at_ : Int) : Rc × Int × Int :=
 if at_ < 0 ∨ (s.size : Int) < at_ then (.nil, 0, 2) else readOut s (recP (s.data.toList.drop at_.toNat))
def Reads3 (w : World) (x : Rc × Int × Int) (e : Ending) (w' : World) : Prop :=
 ∃ v, e = .returned (.tuple #[v, .int .i64 x.2.1, .int .i64 x.2.2]) ∧ IsRec w' v x.1 ∧ Below w.heap.size w w'
def Reads3N (w : World) (x : Rc × Int × Int) (e : Ending) (w' : World) : Prop :=
 ∃ vt vp, e = .returned (.tuple #[recV x.1 vt vp, .int .i64 x.2.1, .int .i64 x.2.2]) ∧ Lists w' x.1 vt vp ∧ New w vt ∧ New w vp ∧ Below w.heap.size w w'
theorem Reads3N.plain {w : World} {x : Rc × Int × Int} {e : Ending} {w' : World} (h : Reads3N w x e w') : Reads3 w x e w' := by
 obtain ⟨vt, vp, h1, h2, _, _, h5⟩ := h
 exact ⟨_, h1, ⟨vt, vp, rfl, h2⟩, h5⟩
theorem results_three {P : Program} {fn : Func} {p u q : Tmp} {ty tz : TypeId} (h : fn.results = #[.cell p ty, .tmp u, .cell q tz]) (tmps : Array Value) (w : World) (g g2 : Nat) (t : TypeId) (cs : Array Value) (d : TypeDesc) (v : Value)
   (hp : tmps.getD p undef = .pointer (some ⟨g, 0, none⟩)) (hg : Blk w g t cs)
   (hu : P.underlying ty = some d) (hd : (match d with | .struct _ | .array _ _ => true | _ => false) = true) (hi : (P.info? ty).map (·.size) = some cs.size)
   (hq : tmps.getD q undef = .pointer (some ⟨g2, 0, none⟩)) (hz : P.underlying tz = some (.int .i64)) (hv : w.cell? ⟨g2, 0, none⟩ = some v) :
   (results fn tmps).run P w = .ok (.tuple #[.agg cs, tmps.getD u undef, v]) w := by
 have hp' : tmps[p]?.getD undef = .pointer (some ⟨g, 0, none⟩) := by simpa using hp
 have hq' : tmps[q]?.getD undef = .pointer (some ⟨g2, 0, none⟩) := by simpa using hq
 have h1 : (loadVar tz ⟨g2, 0, none⟩).run P w = .ok v w := by
   simp [loadVar, isAgg, run_underlying hz, go_sem, hv]
 simp [results, h, hp', hq', asAddr, run_loadVar_row w g t ty cs (0, 0) d hg hu hd hi, h1]
set_option maxRecDepth 100000 in
set_option maxHeartbeats 4000000 in
theorem read_range (s : ByteArray) (at_ : Int) (w : World) (h : at_ < 0 ∨ (s.size : Int) < at_) :
   Calls Tryz.prog 78 #[.string s, .int .i64 at_] w (Reads3N w (readR s at_)) := by
 unfold readR
 rw [if_pos h]
 have hmf : ∀ (fn : Fn) (first cap : Array Value) (w : World), (Instr.makeFunc fn first cap).run Tryz.prog w = .ok (.func fn first cap) w := fun _ _ _ _ => rfl
 go_enter_defers Tryz.func78, Tryz.ntmps78
 go_wp2
 all_goals
   refine ⟨_, results_three rfl _ _ w.heap.size (w.heap.size + 1) 49 (recCells .nil (.slice none 0 0) (.slice none 0 0)) _ (.int .i64 2) rfl ((Blk.new _ _ _).alloc _) Tryz.underlying49 rfl (by kernel_rfl) rfl Tryz.underlying29 ?_, ?_⟩
   · have := (Blk.new (w.alloc (.cells (recCells .nil (.slice none 0 0) (.slice none 0 0)) 49)) 29 #[.int .i64 2]).cell 0
     rw [World.size_alloc] at this
     exact this
   · exact ⟨_, _, rfl, Lists.nil _ _ rfl rfl, New.nil _, New.nil _, ((Below.refl _ _).alloc (Nat.le_refl _) _).alloc (by simp) _⟩
theorem setRow_same {w : World} {g t : Nat} {cs : Array Value} (h : Blk w g t cs) : Below w.heap.size w (w.setRow g cs) := by
 have hb := h.setRow cs
 refine ⟨rfl, rfl, rfl, by simp [World.setRow], fun b _ => ?_⟩
 by_cases e : b = g
 · subst e; exact hb.trans h.symm
 · exact setRow_other w g b cs e
set_option maxRecDepth 100000 in
set_option maxHeartbeats 4000000 in
theorem read_in (s : ByteArray) (k : Nat) (w : World) (hs : s.size ≤ maxLen) (h : k ≤ s.size) (o : Option (Rc × List UInt8)) (ho : o = recP (s.data.toList.drop k)) :
   Calls Tryz.prog 78 #[.string s, .int .i64 k] w (Reads3N w (readOut s o)) := by
 have HS := Lib.hid hs
 have HO := Lib.hid ho
 unfold maxLen at hs
 clear ho
 have hmf : ∀ (fn : Fn) (first cap : Array Value) (w : World), (Instr.makeFunc fn first cap).run Tryz.prog w = .ok (.func fn first cap) w := fun _ _ _ _ => rfl
 go_enter_defers Tryz.func78, Tryz.ntmps78
 go_wp2_with fail
 change Calls _ _ _ (((w.alloc (.cells (recCells .nil (.slice none 0 0) (.slice none 0 0)) 49)).alloc (.cells #[.int .i64 0] 29)).alloc (.cells #[.string s, .int .i64 k] 174)) _
 have a1 := (Blk.new w 49 (recCells .nil (.slice none 0 0) (.slice none 0 0)))
 have a2 := (Blk.new (w.alloc (.cells (recCells .nil (.slice none 0 0) (.slice none 0 0)) 49)) 29 #[.int .i64 0])
 have a3 := (Blk.new ((w.alloc (.cells (recCells .nil (.slice none 0 0) (.slice none 0 0)) 49)).alloc (.cells #[.int .i64 0] 29)) 174 #[.string s, .int .i64 k])
 have hb := (((Below.refl w.heap.size w).alloc (Nat.le_refl _) (.cells (recCells .nil (.slice none 0 0) (.slice none 0 0)) 49)).alloc (by simp) (.cells #[.int .i64 0] 29)).alloc (by simp; omega) (.cells #[.string s, .int .i64 k] 174)
 replace a1 := (a1.alloc (.cells #[.int .i64 0] 29)).alloc (.cells #[.string s, .int .i64 k] 174)
 replace a2 := a2.alloc (.cells #[.string s, .int .i64 k] 174)
 simp only [World.size_alloc] at a2 a3
 generalize ((w.alloc (.cells (recCells .nil (.slice none 0 0) (.slice none 0 0)) 49)).alloc (.cells #[.int .i64 0] 29)).alloc (.cells #[.string s, .int .i64 k] 174) = w0 at *
 refine (record_any (o := o) ⟨k, h, HS.out, rfl, a3⟩ HO.out).mono ?_
 intro e w1 hg
 cases o with
 | none =>
   obtain ⟨rfl, ho⟩ := hg
   have b1 := ho.blk a1 (by show ¬ w.heap.size = _; omega)
   have b2 := ho.blk a2 (by show ¬ w.heap.size + 1 = _; omega)
   have c2 := b2.cell 0
   have f2 := b2.frozen 0
   simp at c2
   have B := Lib.hid (ho.below hb (by have := a3.lt; omega) (fun b hb => by show w.heap.size ≤ b; have : b = w.heap.size + 1 + 1 := hb; omega))
   clear a1 a2 a3 ho hb
   unfold gaveUp
   go_wp2_with fail
   refine leaves_cons (f := 107) (args := #[.pointer (some ⟨w.heap.size + 1, 0, none⟩)]) (by simp) (by simp [go_sem]) ?_
   refine (catch_panicking ⟨w.heap.size + 1, 0, none⟩ 0 _ _ [] _ c2 f2).mono ?_
   rintro e u' w'' ⟨rfl, rfl, rfl⟩
   refine ⟨_, results_three rfl _ _ w.heap.size (w.heap.size + 1) 49 (recCells .nil (.slice none 0 0) (.slice none 0 0)) _ (.int .i64 3) rfl (b1.far (by show w.heap.size ≠ w.heap.size + 1; omega) _) Tryz.underlying49 rfl (by kernel_rfl) rfl Tryz.underlying29 ?_, ?_⟩
   · exact (b2.set 0 _).cell 0
   · exact ⟨_, _, rfl, Lists.nil _ _ rfl rfl, New.nil _, New.nil _, B.out.setCell (by show w.heap.size ≤ w.heap.size + 1; omega) _⟩
 | some x =>
   obtain ⟨r, l⟩ := x
   obtain ⟨vt, vp, rfl, hl, hr, ho, nt, np⟩ := hg
   have NT2 := Lib.hid (nt.mono hb.size)
   have NP2 := Lib.hid (np.mono hb.size)
   have b1 := ho.blk a1 (by show ¬ w.heap.size = _; omega)
   have b2 := ho.blk a2 (by show ¬ w.heap.size + 1 = _; omega)
   have B := Lib.hid (ho.below hb (by have := a3.lt; omega) (fun b hb => by show w.heap.size ≤ b; have : b = w.heap.size + 1 + 1 := hb; omega))
   have one := hl.one
   go_wp2_with (refine wpList_store_row rfl 49 _ _ rfl w.heap.size _ rfl rfl 49 _ b1 (by kernel_rfl) rfl one ?_)
   obtain ⟨k', hk', _, hl', a3'⟩ := hr
   have hkl : (k' : Int) = (s.size : Int) - l.length := by
     rw [hl', List.length_drop]
     have : s.data.toList.length = s.size := rfl
     omega
   have r1 := b1.setRow (recCells r vt vp)
   have r2 := b2.farRow (k := w.heap.size) (by omega) (recCells r vt vp)
   have r3 := a3'.farRow (k := w.heap.size) (by omega) (recCells r vt vp)
   have hs1 : Only (· = w.heap.size) w1 (w1.setRow w.heap.size (recCells r vt vp)) := (Only.refl (· = w.heap.size) w1).setRow (g := w.heap.size) (.inl rfl) _
   have hlt := a3.lt
   have hl2 := hl.keepS hs1 (fun b h e => by have := nt b h; have : b = w.heap.size := e; omega) (fun b h e => by have := np b h; have : b = w.heap.size := e; omega)
   have B2 := hs1.below B.out (B.out.size) (fun b hb => by have : b = w.heap.size := hb; omega)
   clear hs1 b1 b2 a3' ho hl a1 a2 a3 hb B HO
   generalize w1.setRow w.heap.size (recCells r vt vp) = w2 at *
   have d1 := r3.cell 1
   simp at d1
   have z1 := r2.frozen 0
   have d2 := r2.cell 0
   simp at d2
   have HKL := Lib.hid hkl
   clear hkl hl'
   refine' wp_region_conf 4 [.is _, .is _, .is _, .is undef] (by kernel_rfl) (by kernel_rfl) (by kernel_rfl) (by kernel_rfl) rfl ?main
   case main =>
     iterate 3
       refine obs_is (fun w3 hE2 _ => ?_) ?_
       · have q1 := r1.drew.keep hE2 r1.lt
         have q3 := r3.drew.keep hE2 r3.lt
         have e1 := q3.cell 1
         simp at e1
         clear q3
         go_wp2_with (refine wpList_load_row rfl 49 _ rfl w.heap.size rfl 49 _ (0, 0) _ q1 Tryz.underlying49 rfl (by kernel_rfl) ?_)
         exact post_is (Below.refl _ _)
       simp only [Act.put, sA, sB, sC]
     refine obs_is (fun w3 hE2 _ => ?_) ?_
     · have q1 := r1.drew.keep hE2 r1.lt
       go_wp2_with (refine wpList_store_row rfl 49 _ _ rfl w.heap.size _ rfl rfl 49 _ q1 (by kernel_rfl) rfl one ?_)
       exact post_is (setRow_same q1)
     simp only [Act.put]
     refine obs_end fun w3 hE3 _ => ?_
     have p1 := r1.drew.keep hE3 r1.lt
     have p2 := r2.drew.keep hE3 r2.lt
     have hl4 := hl2.keep (w' := w3) ⟨hE3.os, hE3.tape, hE3.output, hE3.size, hE3.block⟩
     have B4 : Below w.heap.size w w3 := B2.trans ⟨hE3.os, hE3.tape, hE3.output, hE3.size, fun b hb => hE3.block b (by have := B2.size; show b < w2.heap.size; omega)⟩
     clear hE3 r1 r2 r3 d1 d2 z1 hl2 B2
     have z1 := p2.frozen 0
     have d2 := p2.cell 0
     simp at d2
     change wpList _ _ _ _ _ _
     have HL := Lib.hid hl4
     have HB := Lib.hid B4
     have NT := Lib.hid nt
     have NP := Lib.hid np
     clear hl4 B4 nt np
     go_wp2
     refine leaves_cons (f := 107) (args := #[.pointer (some ⟨w.heap.size + 1, 0, none⟩)]) (by simp) (by simp [go_sem]) ?_
     refine (catch_idle ⟨w.heap.size + 1, 0, none⟩ _).mono ?_
     rintro e u' w'' ⟨rfl, rfl, rfl⟩
     refine ⟨_, results_three rfl _ _ w.heap.size (w.heap.size + 1) 49 (recCells r vt vp) _ (.int .i64 0) rfl (p1.far (by show w.heap.size ≠ w.heap.size + 1; omega) _) Tryz.underlying49 rfl (by kernel_rfl) rfl Tryz.underlying29 ?_, ?_⟩
     · exact (p2.set 0 _).cell 0
     · refine ⟨vt, vp, ?_, ?_, NT2.out, NP2.out, HB.out.setCell (by show w.heap.size ≤ w.heap.size + 1; omega) _⟩
       · show Ending.returned (.tuple #[.agg (recCells r vt vp), .int .i64 (k' : Int), .int .i64 0]) = _
         rw [HKL.out]
         rfl
       · refine HL.out.keepS (S := (· = w.heap.size + 1)) ((Only.refl (· = w.heap.size + 1) w3).set (p := ⟨w.heap.size + 1, 0, none⟩) (.inl rfl) _) ?_ ?_
         · exact fun b hb e => by have := NT.out b hb; have : b = w.heap.size + 1 := e; omega
         · exact fun b hb e => by have := NP.out b hb; have : b = w.heap.size + 1 := e; omega
theorem rdRead_new (s : ByteArray) (at_ : Int) (w : World) (hs : s.size ≤ maxLen) : Calls Tryz.prog 78 #[.string s, .int .i64 at_] w (Reads3N w (readR s at_)) := by
 by_cases h : at_ < 0 ∨ (s.size : Int) < at_
 · exact read_range s at_ w h
 · obtain ⟨k, rfl⟩ := Int.eq_ofNat_of_zero_le (show 0 ≤ at_ by omega)
   have := read_in s k w hs (by omega) _ rfl
   unfold readR
   rw [if_neg h]
   exact this
theorem rdRead_any (s : ByteArray) (at_ : Int) (w : World) (hs : s.size ≤ maxLen) : Calls Tryz.prog 78 #[.string s, .int .i64 at_] w (Reads3 w (readR s at_)) :=
 (rdRead_new s at_ w hs).mono fun _ _ h => h.plain
end Go.Proofs.YtbplgbkbggmaeaaGreat

namespace Go.Proofs.YtbplgbkbggmaeaaGreat
open Go.RowKit
theorem Buf.conv {w0 w : World} {v : Value} {l : List UInt8} (h : Buf w0 w v l) (hl : l ≠ []) : ∃ g cap, v = .slice (some ⟨g, 0, none⟩) l.length cap ∧ (convert 136 9 v).run Tryz.prog w = .ok (.string ⟨l.toArray⟩) w := by
 obtain ⟨g, cap, rfl, _, _⟩ := own_form h.own (List.length_pos_iff.2 hl)
 exact ⟨g, cap, rfl, conv_owned l (by rw [show (bytesV l).toList = bytesL l from by simp [bytesV, bytesL]]; exact h.own) _ _ Tryz.underlying136 Tryz.underlying5 Tryz.underlying9⟩
theorem Buf.first (w0 : World) (n : Int) : Buf w0 (w0.alloc (.cells #[.int .u8 (n % 256)] 5)) (.slice (some ⟨w0.heap.size, 0, none⟩) 1 1) [lowI n] := by
 refine ⟨?_, (Below.refl _ _).alloc (Nat.le_refl _) _⟩
 refine ⟨rfl, .inr ⟨w0.heap.size, 1, #[.int .u8 (n % 256)], rfl, Nat.le_refl _, heap_alloc_new w0 _, Nat.le_refl _, by decide, rfl, ?_⟩⟩
 exact beLow_cells n
theorem three_cells (a b c : Int) : [Value.int .u8 (a % 256), .int .u8 (b % 256), .int .u8 (c % 256)] = bytesL [lowI a, lowI b, lowI c] := by
 have h1 := beLow_cells a
 have h2 := beLow_cells b
 have h3 := beLow_cells c
 rw [show [lowI a, lowI b, lowI c] = [lowI a] ++ [lowI b] ++ [lowI c] from rfl, bytesL_app, bytesL_app, ← h1, ← h2, ← h3]
 rfl
theorem strCells_bytes (s : ByteArray) : Lib.strCells s = bytesL s.data.toList := rfl
section
variable {w : World} {vt vp : Value}
set_option maxRecDepth 100000 in
set_option maxHeartbeats 8000000 in
theorem lay_com {k t p pg o x bg : Int} {bf af : ByteArray} {ts : List Row3} {ps : List Row2} (k4 : k ≤ 4) (k1 : k ≠ 1) (k2 : k ≠ 2) (hl : Lists w ⟨k, t, pg, o, p, x, bg, bf, af, ts, ps⟩ vt vp) (hf : Fit ⟨k, t, pg, o, p, x, bg, bf, af, ts, ps⟩) (L : List UInt8) (hL : L = [lowI k] ++ beI t ++ beI p) :
   Calls Tryz.prog 77 #[recV ⟨k, t, pg, o, p, x, bg, bf, af, ts, ps⟩ vt vp] w fun e w' => e = .returned (.string ⟨L.toArray⟩) ∧ Below w.heap.size w w' := by
 obtain ⟨i0, hi, he⟩ := Option.map_eq_some_iff.1 info_byte
 simp only [Prod.mk.injEq] at he
 obtain ⟨hz0, hz1, hz2⟩ := he
 have LL := Lib.hid hL
 have hne : L ≠ [] := by rw [hL]; simp
 obtain ⟨f1, f2, f3, f4⟩ := hf
 simp only at f1 f2 f3 f4
 have hb0 : Below w.heap.size w (w.alloc (.cells (recCells ⟨k, t, pg, o, p, x, bg, bf, af, ts, ps⟩ vt vp) 49)) := (Below.refl _ _).alloc (Nat.le_refl _) _
 have B0 := Lib.hid (Blk.new w 49 (recCells ⟨k, t, pg, o, p, x, bg, bf, af, ts, ps⟩ vt vp))
 have HL := Lib.hid (hl.keep hb0)
 have HB := Lib.hid hb0
 have H0 := Lib.hid (Buf.first (w.alloc (.cells (recCells ⟨k, t, pg, o, p, x, bg, bf, af, ts, ps⟩ vt vp) 49)) k)
 rw [World.size_alloc] at H0
 clear hL hl hb0
 unfold recV recCells
 go_enter Tryz.func77, Tryz.ntmps77
 have e1 : (k == 1) = false := by rw [beq_eq_false_iff_ne]; exact k1
 have e2 : (k == 2) = false := by rw [beq_eq_false_iff_ne]; exact k2
 have e6 : (k == 6) = false := by rw [beq_eq_false_iff_ne]; omega
 go_wp2_with fail
 refine (appendNumber_any H0.out (by first | omega | (simp; done)) t).mono ?_
 rintro e w1 ⟨v1, rfl, hb, _⟩
 have hl1 : ([lowI k] ++ beI t).length ≤ 5 := by rw [List.length_append, beI_len]; first | omega | exact Nat.le_refl _
 have H1 := Lib.hid hb
 clear hb H0 
 generalize hq : [lowI k] ++ beI t = l1 at *
 have Q1 := Lib.hid hq
 clear hq
 have bx := B0.out.keep H1.out.below B0.out.lt
 have c4 := bx.cell 4
 simp [recCells] at c4
 clear bx
 go_wp2_with fail
 refine (appendNumber_any H1.out (by first | omega | (simp; done)) p).mono ?_
 rintro e w2 ⟨v2, rfl, hb, _⟩
 have hl2 : (l1 ++ beI p).length ≤ 9 := by rw [List.length_append, beI_len]; first | omega | exact Nat.le_refl _
 have H2 := Lib.hid hb
 clear hb H1 c4
 generalize hq : l1 ++ beI p = l2 at *
 have Q2 := Lib.hid hq
 clear hq
 have bx := B0.out.keep H2.out.below B0.out.lt
 have c0 := bx.cell 0
 simp [recCells] at c0
 clear bx
 have hfin : Buf (w.alloc (.cells (recCells ⟨k, t, pg, o, p, x, bg, bf, af, ts, ps⟩ vt vp) 49)) w2 v2 L := by rw [LL.out]; exact H2.out
 obtain ⟨gg, cc, hv, hcv⟩ := hfin.conv hne
 subst hv
 have LB := Lib.hid (HB.out.trans (H2.out.below.mono HB.out.size))
 clear H2 hfin 
 go_wp2
 go_ret
 exact ⟨rfl, LB.out⟩
set_option maxRecDepth 100000 in
set_option maxHeartbeats 8000000 in
theorem lay_none {k t p pg o x bg : Int} {bf af : ByteArray} {ts : List Row3} {ps : List Row2} (k4 : 4 < k) (k6 : k ≠ 6) (k1 : k ≠ 1) (k2 : k ≠ 2) (hl : Lists w ⟨k, t, pg, o, p, x, bg, bf, af, ts, ps⟩ vt vp) (hf : Fit ⟨k, t, pg, o, p, x, bg, bf, af, ts, ps⟩) (L : List UInt8) (hL : L = [lowI k]) :
   Calls Tryz.prog 77 #[recV ⟨k, t, pg, o, p, x, bg, bf, af, ts, ps⟩ vt vp] w fun e w' => e = .returned (.string ⟨L.toArray⟩) ∧ Below w.heap.size w w' := by
 obtain ⟨i0, hi, he⟩ := Option.map_eq_some_iff.1 info_byte
 simp only [Prod.mk.injEq] at he
 obtain ⟨hz0, hz1, hz2⟩ := he
 have LL := Lib.hid hL
 have hne : L ≠ [] := by rw [hL]; simp
 obtain ⟨f1, f2, f3, f4⟩ := hf
 simp only at f1 f2 f3 f4
 have hb0 : Below w.heap.size w (w.alloc (.cells (recCells ⟨k, t, pg, o, p, x, bg, bf, af, ts, ps⟩ vt vp) 49)) := (Below.refl _ _).alloc (Nat.le_refl _) _
 have B0 := Lib.hid (Blk.new w 49 (recCells ⟨k, t, pg, o, p, x, bg, bf, af, ts, ps⟩ vt vp))
 have HL := Lib.hid (hl.keep hb0)
 have HB := Lib.hid hb0
 have H0 := Lib.hid (Buf.first (w.alloc (.cells (recCells ⟨k, t, pg, o, p, x, bg, bf, af, ts, ps⟩ vt vp) 49)) k)
 rw [World.size_alloc] at H0
 clear hL hl hb0
 unfold recV recCells
 go_enter Tryz.func77, Tryz.ntmps77
 have e1 : (k == 1) = false := by rw [beq_eq_false_iff_ne]; exact k1
 have e2 : (k == 2) = false := by rw [beq_eq_false_iff_ne]; exact k2
 have e6 : (k == 6) = false := by rw [beq_eq_false_iff_ne]; exact k6
 have hfin := H0.out
 rw [← LL.out] at hfin
 obtain ⟨gg, cc, hv, hcv⟩ := hfin.conv hne
 simp only [Value.slice.injEq, Option.some.injEq, Addr.mk.injEq, and_true] at hv
 obtain ⟨rfl, h1, rfl⟩ := hv
 clear h1
 unfold recCells at hcv
 have LB := Lib.hid (HB.out.trans (H0.out.below.mono HB.out.size))
 have k4' : ¬ k ≤ 4 := by omega
 clear H0 hfin
 go_wp2
 go_ret
 exact ⟨rfl, LB.out⟩
set_option maxRecDepth 100000 in
set_option maxHeartbeats 8000000 in
theorem lay_tab {k t p pg o x bg : Int} {bf af : ByteArray} {ts : List Row3} {ps : List Row2} (k6 : k = 6) (hl : Lists w ⟨k, t, pg, o, p, x, bg, bf, af, ts, ps⟩ vt vp) (hf : Fit ⟨k, t, pg, o, p, x, bg, bf, af, ts, ps⟩) (L : List UInt8) (hL : L = [lowI k] ++ encTab ⟨k, t, pg, o, p, x, bg, bf, af, ts, ps⟩) :
   Calls Tryz.prog 77 #[recV ⟨k, t, pg, o, p, x, bg, bf, af, ts, ps⟩ vt vp] w fun e w' => e = .returned (.string ⟨L.toArray⟩) ∧ Below w.heap.size w w' := by
 subst k6
 obtain ⟨i0, hi, he⟩ := Option.map_eq_some_iff.1 info_byte
 simp only [Prod.mk.injEq] at he
 obtain ⟨hz0, hz1, hz2⟩ := he
 have LL := Lib.hid hL
 have hne : L ≠ [] := by rw [hL]; simp
 obtain ⟨f1, f2, f3, f4⟩ := hf
 simp only at f1 f2 f3 f4
 have hb0 : Below w.heap.size w (w.alloc (.cells (recCells ⟨6, t, pg, o, p, x, bg, bf, af, ts, ps⟩ vt vp) 49)) := (Below.refl _ _).alloc (Nat.le_refl _) _
 have B0 := Lib.hid (Blk.new w 49 (recCells ⟨6, t, pg, o, p, x, bg, bf, af, ts, ps⟩ vt vp))
 have HL := Lib.hid (hl.keep hb0)
 have HB := Lib.hid hb0
 have H0 := Lib.hid (Buf.first (w.alloc (.cells (recCells ⟨6, t, pg, o, p, x, bg, bf, af, ts, ps⟩ vt vp) 49)) 6)
 rw [World.size_alloc] at H0
 clear hL hl hb0
 unfold recV recCells
 go_enter Tryz.func77, Tryz.ntmps77
 go_wp2_with fail
 refine (appendTables_any H0.out (by simp) HL.out f3 f4).mono ?_
 rintro e w1 ⟨v1, rfl, hb⟩
 have H1 := Lib.hid hb
 clear hb H0
 have hfin : Buf (w.alloc (.cells (recCells ⟨6, t, pg, o, p, x, bg, bf, af, ts, ps⟩ vt vp) 49)) w1 v1 L := by rw [LL.out]; exact H1.out
 obtain ⟨gg, cc, hv, hcv⟩ := hfin.conv hne
 subst hv
 have LB := Lib.hid (HB.out.trans (H1.out.below.mono HB.out.size))
 clear H1 hfin 
 go_wp2
 go_ret
 exact ⟨rfl, LB.out⟩
set_option maxRecDepth 100000 in
set_option maxHeartbeats 8000000 in
theorem lay_upd {k t p pg o x bg : Int} {bf af : ByteArray} {ts : List Row3} {ps : List Row2} (k1 : k = 1) (hl : Lists w ⟨k, t, pg, o, p, x, bg, bf, af, ts, ps⟩ vt vp) (hf : Fit ⟨k, t, pg, o, p, x, bg, bf, af, ts, ps⟩) (L : List UInt8) (hL : L = [lowI k] ++ beI t ++ beI p ++ [lowI pg, lowI o, lowI af.size] ++ bf.data.toList ++ af.data.toList) :
   Calls Tryz.prog 77 #[recV ⟨k, t, pg, o, p, x, bg, bf, af, ts, ps⟩ vt vp] w fun e w' => e = .returned (.string ⟨L.toArray⟩) ∧ Below w.heap.size w w' := by
 subst k1
 obtain ⟨i0, hi, he⟩ := Option.map_eq_some_iff.1 info_byte
 simp only [Prod.mk.injEq] at he
 obtain ⟨hz0, hz1, hz2⟩ := he
 have LL := Lib.hid hL
 have hne : L ≠ [] := by rw [hL]; simp
 obtain ⟨f1, f2, f3, f4⟩ := hf
 simp only at f1 f2 f3 f4
 have hb0 : Below w.heap.size w (w.alloc (.cells (recCells ⟨1, t, pg, o, p, x, bg, bf, af, ts, ps⟩ vt vp) 49)) := (Below.refl _ _).alloc (Nat.le_refl _) _
 have B0 := Lib.hid (Blk.new w 49 (recCells ⟨1, t, pg, o, p, x, bg, bf, af, ts, ps⟩ vt vp))
 have HL := Lib.hid (hl.keep hb0)
 have HB := Lib.hid hb0
 have H0 := Lib.hid (Buf.first (w.alloc (.cells (recCells ⟨1, t, pg, o, p, x, bg, bf, af, ts, ps⟩ vt vp) 49)) 1)
 rw [World.size_alloc] at H0
 clear hL hl hb0
 unfold recV recCells
 go_enter Tryz.func77, Tryz.ntmps77
 go_wp2_with fail
 refine (appendNumber_any H0.out (by first | omega | (simp; done)) t).mono ?_
 rintro e w1 ⟨v1, rfl, hb, _⟩
 have hl1 : ([lowI 1] ++ beI t).length ≤ 5 := by rw [List.length_append, beI_len]; first | omega | exact Nat.le_refl _
 have H1 := Lib.hid hb
 clear hb H0 
 generalize hq : [lowI 1] ++ beI t = l1 at *
 have Q1 := Lib.hid hq
 clear hq
 have bx := B0.out.keep H1.out.below B0.out.lt
 have c4 := bx.cell 4
 simp [recCells] at c4
 clear bx
 go_wp2_with fail
 refine (appendNumber_any H1.out (by first | omega | (simp; done)) p).mono ?_
 rintro e w2 ⟨v2, rfl, hb, _⟩
 have hl2 : (l1 ++ beI p).length ≤ 9 := by rw [List.length_append, beI_len]; first | omega | exact Nat.le_refl _
 have H2 := Lib.hid hb
 clear hb H1 c4
 generalize hq : l1 ++ beI p = l2 at *
 have Q2 := Lib.hid hq
 clear hq
 have bx := B0.out.keep H2.out.below B0.out.lt
 have c0 := bx.cell 0
 have c2 := bx.cell 2
 have c3 := bx.cell 3
 have c8 := bx.cell 8
 simp [recCells] at c0 c2 c3 c8
 clear bx
 have hown := own_below H2.out.own ((Below.refl w2.heap.size w2).alloc (Nat.le_refl _) (.cells #[.int .u8 (pg % 256), .int .u8 (o % 256), .int .u8 ((af.size : Int) % 256)] 5))
 have hle := H2.out.le
 rw [World.size_alloc] at hle
 go_wp2_with (at_builtin; refine wpList_append_own _ rfl (.tmp 31) (.tmp 42) 136 rfl (w.alloc (.cells (recCells ⟨1, t, pg, o, p, x, bg, bf, af, ts, ps⟩ vt vp) 49)).heap.size 5 i0 (.int .u8 0) 1 1 Tryz.underlying136 hi hz0 hz1 hz2 rfl (by decide) v2 _ _ rfl hown ⟨w2.heap.size, 0, none⟩ 3 3 [.int .u8 (pg % 256), .int .u8 (o % 256), .int .u8 ((af.size : Int) % 256)] rfl rfl (World.news_of_block (heap_alloc_new w2 _)) (by simp [Value.oneCell']) (by unfold maxLen; omega) (by omega) (by simp; omega) ?_)
 intro v3 w3 hown3 hgrow _
 have hl3 : (l2 ++ [lowI pg, lowI o, lowI af.size]).length ≤ 12 := by rw [List.length_append]; show _ + 3 ≤ _; omega
 have H3 := Lib.hid ((H2.out.more ((Below.refl _ _).alloc (Nat.le_refl _) _)).grow (m := 3) (by rw [World.size_alloc]; exact hown3) hgrow (three_cells pg o af.size))
 clear hown hown3 hgrow hle H2
 generalize hq : l2 ++ [lowI pg, lowI o, lowI af.size] = l3 at *
 have Q3 := Lib.hid hq
 clear hq
 have bx := B0.out.keep H3.out.below B0.out.lt
 have c7 := bx.cell 7
 simp [recCells] at c7
 clear bx
 have hown := H3.out.own
 have hle := H3.out.le
 rw [World.size_alloc] at hle
 go_wp2_with (at_builtin; refine Lib.wpList_append_own_string _ rfl (.tmp 44) (.tmp 46) 136 9 rfl (w.alloc (.cells (recCells ⟨1, t, pg, o, p, x, bg, bf, af, ts, ps⟩ vt vp) 49)).heap.size 5 i0 Tryz.underlying136 Tryz.underlying9 hi hz0 hz1 hz2 v3 _ _ rfl hown bf rfl (by unfold maxLen; omega) (by omega) (by simp; omega) ?_)
 intro v4 w4 hown4 hgrow _
 have hl4 : (l3 ++ bf.data.toList).length ≤ 400 := by rw [List.length_append, size_bytes]; omega
 have H4 := Lib.hid (H3.out.grow (m := bf.size) (by rw [World.size_alloc]; exact hown4) hgrow (strCells_bytes bf))
 clear hown hown4 hgrow hle H3
 generalize hq : l3 ++ bf.data.toList = l4 at *
 have Q4 := Lib.hid hq
 clear hq
 have bx := B0.out.keep H4.out.below B0.out.lt
 have c8 := bx.cell 8
 simp [recCells] at c8
 clear bx
 have hown := H4.out.own
 have hle := H4.out.le
 rw [World.size_alloc] at hle
 go_wp2_with (at_builtin; refine Lib.wpList_append_own_string _ rfl (.tmp 48) (.tmp 50) 136 9 rfl (w.alloc (.cells (recCells ⟨1, t, pg, o, p, x, bg, bf, af, ts, ps⟩ vt vp) 49)).heap.size 5 i0 Tryz.underlying136 Tryz.underlying9 hi hz0 hz1 hz2 v4 _ _ rfl hown af rfl (by unfold maxLen; omega) (by omega) (by simp; omega) ?_)
 intro v5 w5 hown5 hgrow _
 have hl5 : (l4 ++ af.data.toList).length ≤ 800 := by rw [List.length_append, size_bytes]; omega
 have H5 := Lib.hid (H4.out.grow (m := af.size) (by rw [World.size_alloc]; exact hown5) hgrow (strCells_bytes af))
 clear hown hown5 hgrow hle H4
 generalize hq : l4 ++ af.data.toList = l5 at *
 have Q5 := Lib.hid hq
 clear hq
 have hfin : Buf (w.alloc (.cells (recCells ⟨1, t, pg, o, p, x, bg, bf, af, ts, ps⟩ vt vp) 49)) w5 v5 L := by rw [LL.out]; exact H5.out
 obtain ⟨gg, cc, hv, hcv⟩ := hfin.conv hne
 subst hv
 have LB := Lib.hid (HB.out.trans (H5.out.below.mono HB.out.size))
 clear H5 hfin 
 go_wp2
 go_ret
 exact ⟨rfl, LB.out⟩
set_option maxRecDepth 100000 in
set_option maxHeartbeats 8000000 in
theorem lay_und {k t p pg o x bg : Int} {bf af : ByteArray} {ts : List Row3} {ps : List Row2} (k2 : k = 2) (hl : Lists w ⟨k, t, pg, o, p, x, bg, bf, af, ts, ps⟩ vt vp) (hf : Fit ⟨k, t, pg, o, p, x, bg, bf, af, ts, ps⟩) (L : List UInt8) (hL : L = [lowI k] ++ beI t ++ beI p ++ beI x ++ [lowI pg, lowI o, lowI af.size] ++ bf.data.toList ++ af.data.toList) :
   Calls Tryz.prog 77 #[recV ⟨k, t, pg, o, p, x, bg, bf, af, ts, ps⟩ vt vp] w fun e w' => e = .returned (.string ⟨L.toArray⟩) ∧ Below w.heap.size w w' := by
 subst k2
 obtain ⟨i0, hi, he⟩ := Option.map_eq_some_iff.1 info_byte
 simp only [Prod.mk.injEq] at he
 obtain ⟨hz0, hz1, hz2⟩ := he
 have LL := Lib.hid hL
 have hne : L ≠ [] := by rw [hL]; simp
 obtain ⟨f1, f2, f3, f4⟩ := hf
 simp only at f1 f2 f3 f4
 have hb0 : Below w.heap.size w (w.alloc (.cells (recCells ⟨2, t, pg, o, p, x, bg, bf, af, ts, ps⟩ vt vp) 49)) := (Below.refl _ _).alloc (Nat.le_refl _) _
 have B0 := Lib.hid (Blk.new w 49 (recCells ⟨2, t, pg, o, p, x, bg, bf, af, ts, ps⟩ vt vp))
 have HL := Lib.hid (hl.keep hb0)
 have HB := Lib.hid hb0
 have H0 := Lib.hid (Buf.first (w.alloc (.cells (recCells ⟨2, t, pg, o, p, x, bg, bf, af, ts, ps⟩ vt vp) 49)) 2)
 rw [World.size_alloc] at H0
 clear hL hl hb0
 unfold recV recCells
 go_enter Tryz.func77, Tryz.ntmps77
 go_wp2_with fail
 refine (appendNumber_any H0.out (by first | omega | (simp; done)) t).mono ?_
 rintro e w1 ⟨v1, rfl, hb, _⟩
 have hl1 : ([lowI 2] ++ beI t).length ≤ 5 := by rw [List.length_append, beI_len]; first | omega | exact Nat.le_refl _
 have H1 := Lib.hid hb
 clear hb H0 
 generalize hq : [lowI 2] ++ beI t = l1 at *
 have Q1 := Lib.hid hq
 clear hq
 have bx := B0.out.keep H1.out.below B0.out.lt
 have c4 := bx.cell 4
 simp [recCells] at c4
 clear bx
 go_wp2_with fail
 refine (appendNumber_any H1.out (by first | omega | (simp; done)) p).mono ?_
 rintro e w2 ⟨v2, rfl, hb, _⟩
 have hl2 : (l1 ++ beI p).length ≤ 9 := by rw [List.length_append, beI_len]; first | omega | exact Nat.le_refl _
 have H2 := Lib.hid hb
 clear hb H1 c4
 generalize hq : l1 ++ beI p = l2 at *
 have Q2 := Lib.hid hq
 clear hq
 have bx := B0.out.keep H2.out.below B0.out.lt
 have c0 := bx.cell 0
 have c5 := bx.cell 5
 simp [recCells] at c0 c5
 clear bx
 go_wp2_with fail
 refine (appendNumber_any H2.out (by first | omega | (simp; done)) x).mono ?_
 rintro e w3 ⟨v3, rfl, hb, _⟩
 have hl3 : (l2 ++ beI x).length ≤ 13 := by rw [List.length_append, beI_len]; first | omega | exact Nat.le_refl _
 have H3 := Lib.hid hb
 clear hb H2 c0 c5
 generalize hq : l2 ++ beI x = l3 at *
 have Q3 := Lib.hid hq
 clear hq
 have bx := B0.out.keep H3.out.below B0.out.lt
 have c2 := bx.cell 2
 have c3 := bx.cell 3
 have c8 := bx.cell 8
 simp [recCells] at c2 c3 c8
 clear bx
 have hown := own_below H3.out.own ((Below.refl w3.heap.size w3).alloc (Nat.le_refl _) (.cells #[.int .u8 (pg % 256), .int .u8 (o % 256), .int .u8 ((af.size : Int) % 256)] 5))
 have hle := H3.out.le
 rw [World.size_alloc] at hle
 go_wp2_with (at_builtin; refine wpList_append_own _ rfl (.tmp 31) (.tmp 42) 136 rfl (w.alloc (.cells (recCells ⟨2, t, pg, o, p, x, bg, bf, af, ts, ps⟩ vt vp) 49)).heap.size 5 i0 (.int .u8 0) 1 1 Tryz.underlying136 hi hz0 hz1 hz2 rfl (by decide) v3 _ _ rfl hown ⟨w3.heap.size, 0, none⟩ 3 3 [.int .u8 (pg % 256), .int .u8 (o % 256), .int .u8 ((af.size : Int) % 256)] rfl rfl (World.news_of_block (heap_alloc_new w3 _)) (by simp [Value.oneCell']) (by unfold maxLen; omega) (by omega) (by simp; omega) ?_)
 intro v4 w4 hown4 hgrow _
 have hl4 : (l3 ++ [lowI pg, lowI o, lowI af.size]).length ≤ 16 := by rw [List.length_append]; show _ + 3 ≤ _; omega
 have H4 := Lib.hid ((H3.out.more ((Below.refl _ _).alloc (Nat.le_refl _) _)).grow (m := 3) (by rw [World.size_alloc]; exact hown4) hgrow (three_cells pg o af.size))
 clear hown hown4 hgrow hle H3
 generalize hq : l3 ++ [lowI pg, lowI o, lowI af.size] = l4 at *
 have Q4 := Lib.hid hq
 clear hq
 have bx := B0.out.keep H4.out.below B0.out.lt
 have c7 := bx.cell 7
 simp [recCells] at c7
 clear bx
 have hown := H4.out.own
 have hle := H4.out.le
 rw [World.size_alloc] at hle
 go_wp2_with (at_builtin; refine Lib.wpList_append_own_string _ rfl (.tmp 44) (.tmp 46) 136 9 rfl (w.alloc (.cells (recCells ⟨2, t, pg, o, p, x, bg, bf, af, ts, ps⟩ vt vp) 49)).heap.size 5 i0 Tryz.underlying136 Tryz.underlying9 hi hz0 hz1 hz2 v4 _ _ rfl hown bf rfl (by unfold maxLen; omega) (by omega) (by simp; omega) ?_)
 intro v5 w5 hown5 hgrow _
 have hl5 : (l4 ++ bf.data.toList).length ≤ 400 := by rw [List.length_append, size_bytes]; omega
 have H5 := Lib.hid (H4.out.grow (m := bf.size) (by rw [World.size_alloc]; exact hown5) hgrow (strCells_bytes bf))
 clear hown hown5 hgrow hle H4
 generalize hq : l4 ++ bf.data.toList = l5 at *
 have Q5 := Lib.hid hq
 clear hq
 have bx := B0.out.keep H5.out.below B0.out.lt
 have c8 := bx.cell 8
 simp [recCells] at c8
 clear bx
 have hown := H5.out.own
 have hle := H5.out.le
 rw [World.size_alloc] at hle
 go_wp2_with (at_builtin; refine Lib.wpList_append_own_string _ rfl (.tmp 48) (.tmp 50) 136 9 rfl (w.alloc (.cells (recCells ⟨2, t, pg, o, p, x, bg, bf, af, ts, ps⟩ vt vp) 49)).heap.size 5 i0 Tryz.underlying136 Tryz.underlying9 hi hz0 hz1 hz2 v5 _ _ rfl hown af rfl (by unfold maxLen; omega) (by omega) (by simp; omega) ?_)
 intro v6 w6 hown6 hgrow _
 have hl6 : (l5 ++ af.data.toList).length ≤ 800 := by rw [List.length_append, size_bytes]; omega
 have H6 := Lib.hid (H5.out.grow (m := af.size) (by rw [World.size_alloc]; exact hown6) hgrow (strCells_bytes af))
 clear hown hown6 hgrow hle H5
 generalize hq : l5 ++ af.data.toList = l6 at *
 have Q6 := Lib.hid hq
 clear hq
 have hfin : Buf (w.alloc (.cells (recCells ⟨2, t, pg, o, p, x, bg, bf, af, ts, ps⟩ vt vp) 49)) w6 v6 L := by rw [LL.out]; exact H6.out
 obtain ⟨gg, cc, hv, hcv⟩ := hfin.conv hne
 subst hv
 have LB := Lib.hid (HB.out.trans (H6.out.below.mono HB.out.size))
 clear H6 hfin 
 go_wp2
 go_ret
 exact ⟨rfl, LB.out⟩
end
end Go.Proofs.YtbplgbkbggmaeaaGreat

namespace Go.Proofs.YtbplgbkbggmaeaaGreat
open Go.RowKit
theorem lay_eqs (k t p pg o x bg : Int) (bf af : ByteArray) (ts : List Row3) (ps : List Row2) :
   (k = 1 → lay ⟨k, t, pg, o, p, x, bg, bf, af, ts, ps⟩ = [lowI k] ++ beI t ++ beI p ++ [lowI pg, lowI o, lowI af.size] ++ bf.data.toList ++ af.data.toList) ∧
   (k = 2 → lay ⟨k, t, pg, o, p, x, bg, bf, af, ts, ps⟩ = [lowI k] ++ beI t ++ beI p ++ beI x ++ [lowI pg, lowI o, lowI af.size] ++ bf.data.toList ++ af.data.toList) ∧
   (k ≤ 4 → k ≠ 1 → k ≠ 2 → lay ⟨k, t, pg, o, p, x, bg, bf, af, ts, ps⟩ = [lowI k] ++ beI t ++ beI p) ∧
   (4 < k → k ≠ 6 → lay ⟨k, t, pg, o, p, x, bg, bf, af, ts, ps⟩ = [lowI k]) ∧
   (k = 6 → lay ⟨k, t, pg, o, p, x, bg, bf, af, ts, ps⟩ = [lowI k] ++ encTab ⟨k, t, pg, o, p, x, bg, bf, af, ts, ps⟩) := by
 refine ⟨?_, ?_, ?_, ?_, ?_⟩
 · rintro rfl; simp [lay]
 · rintro rfl; simp [lay]
 · intro h1 h2 h3; simp [lay, h1, h2, h3, show ¬ k = 6 by omega]
 · intro h1 h2; simp [lay, h2, show ¬ k ≤ 4 by omega, show ¬ k = 1 by omega, show ¬ k = 2 by omega]
 · rintro rfl; simp [lay]
theorem lay_any {w : World} {v : Value} {r : Rc} (hv : IsRec w v r) (hf : Fit r) :
   Calls Tryz.prog 77 #[v] w fun e w' => e = .returned (.string ⟨(lay r).toArray⟩) ∧ Below w.heap.size w w' := by
 obtain ⟨vt, vp, rfl, hl⟩ := hv
 obtain ⟨k, t, pg, o, p, x, bg, bf, af, ts, ps⟩ := r
 obtain ⟨e1, e2, e3, e4, e5⟩ := lay_eqs k t p pg o x bg bf af ts ps
 by_cases h1 : k = 1
 · exact lay_upd h1 hl hf _ (e1 h1)
 · by_cases h2 : k = 2
   · exact lay_und h2 hl hf _ (e2 h2)
   · by_cases h4 : k ≤ 4
     · exact lay_com h4 h1 h2 hl hf _ (e3 h4 h1 h2)
     · by_cases h6 : k = 6
       · exact lay_tab h6 hl hf _ (e5 h6)
       · exact lay_none (by omega) h6 h1 h2 hl hf _ (e4 (by omega) h6)
theorem lay_len {r : Rc} (hf : Fit r) : (lay r).length ≤ 2000 := by
 obtain ⟨f1, f2, f3, f4⟩ := hf
 have s1 : r.before.data.toList.length = r.before.size := rfl
 have s2 : r.after.data.toList.length = r.after.size := rfl
 unfold lay encTab
 split <;> split <;> split <;> split <;> simp only [List.length_append, List.length_cons, List.length_nil, beI_len, flat3_len, flat2_len, s1, s2] <;> omega
theorem May.fit {r : Rc} (h : May r) : Fit r := by
 cases h with
 | upd ht hn hp hs hb => obtain ⟨_, _, h3, _⟩ := hs; refine ⟨?_, ?_, ?_, ?_⟩ <;> simp only [Rc.upd, List.length_nil] <;> omega
 | und ht hn hp hx hs => obtain ⟨_, _, h3, _⟩ := hs; refine ⟨Nat.zero_le _, ?_, ?_, ?_⟩ <;> simp only [Rc.und, List.length_nil] <;> omega
 | com hk ht hn hp => exact ⟨Nat.zero_le _, Nat.zero_le _, Nat.zero_le _, Nat.zero_le _⟩
 | beg => exact ⟨Nat.zero_le _, Nat.zero_le _, Nat.zero_le _, Nat.zero_le _⟩
 | tab hb ht hp h3 h2 => refine ⟨Nat.zero_le _, Nat.zero_le _, ?_, ?_⟩ <;> simp only [Rc.tab] <;> omega
theorem readR_lay (r : Rc) : readR ⟨(lay r).toArray⟩ 0 = readOut ⟨(lay r).toArray⟩ (recP (lay r)) := by
 unfold readR
 rw [if_neg (by omega)]
 simp
theorem rdRead_as (s : ByteArray) (at_ : Int) (w : World) {r : Rc} {n er : Int} (hx : readR s at_ = (r, n, er)) (hs : s.size ≤ maxLen) :
   Calls Tryz.prog 78 #[.string s, .int .i64 at_] w fun e w' => ∃ v, e = .returned (.tuple #[v, .int .i64 n, .int .i64 er]) ∧ IsRec w' v r ∧ Below w.heap.size w w' := by
 have := rdRead_any s at_ w hs
 rw [hx] at this
 exact this
set_option maxRecDepth 100000 in
set_option maxHeartbeats 8000000 in
theorem print_yes {w : World} {v : Value} {r : Rc} (hv : IsRec w v r) (hm : May r) :
   Calls Tryz.prog 50 #[v] w fun e w' => e = .returned (.tuple #[.string ⟨(lay r).toArray⟩, .int .i64 0]) ∧ Below w.heap.size w w' := by
 have hf := hm.fit
 have HL := Lib.hid (fun W (hb : Below w.heap.size w W) => lay_any (hv.keep hb) hf)
 have hrr := readR_lay r
 have hp := recP_lay hm []
 rw [List.append_nil] at hp
 rw [hp] at hrr
 change _ = (r, ((⟨(lay r).toArray⟩ : ByteArray).size : Int) - (([] : List UInt8).length : Int), (0 : Int)) at hrr
 generalize ((⟨(lay r).toArray⟩ : ByteArray).size : Int) - (([] : List UInt8).length : Int) = nn at hrr
 have hlen := lay_len hf
 have HR := Lib.hid (fun W => rdRead_as ⟨(lay r).toArray⟩ 0 W hrr (by rw [show (⟨(lay r).toArray⟩ : ByteArray).size = (lay r).length from by simp [ByteArray.size]]; unfold maxLen; omega))
 have HV := Lib.hid hv
 obtain ⟨vt, vp, rfl, hl⟩ := hv
 have B0 := Lib.hid (Blk.new w 49 (recCells r vt vp))
 have hb0 : Below w.heap.size w (w.alloc (.cells (recCells r vt vp) 49)) := (Below.refl _ _).alloc (Nat.le_refl _) _
 have HB0 := Lib.hid hb0
 clear hl hb0 hrr hf hlen hp hm
 generalize (⟨(lay r).toArray⟩ : ByteArray) = s at *
 unfold recV
 go_enter Tryz.func50, Tryz.ntmps50
 have bx := B0.out
 go_wp2_with (refine wpList_load_row rfl 49 _ rfl w.heap.size rfl 49 _ (0, 0) _ bx Tryz.underlying49 rfl (by kernel_rfl) ?_)
 clear bx
 refine (HL.out _ HB0.out).mono ?_
 rintro e w1 ⟨rfl, hb1⟩
 have B1 := Lib.hid (B0.out.keep hb1 B0.out.lt)
 have HB1 := Lib.hid (HB0.out.trans (hb1.mono HB0.out.size))
 clear hb1 HL B0 HB0
 go_wp2_with fail
 refine (HR.out _).mono ?_
 rintro e w2 ⟨v', rfl, ⟨vt', vp', hv', hl'⟩, hb2⟩
 subst hv'
 have B2 := B1.out.keep hb2 B1.out.lt
 have HB2 := Lib.hid (HB1.out.trans (hb2.mono HB1.out.size))
 have one := hl'.one
 have hn := Blk.new w2 49 (recCells .nil (.slice none 0 0) (.slice none 0 0))
 have B3 := (B2.alloc (.cells (recCells .nil (.slice none 0 0) (.slice none 0 0)) 49)).farRow (k := w2.heap.size) (by have := B2.lt; omega) (recCells r vt' vp')
 have N3 := hn.setRow (recCells r vt' vp')
 have hb3 : Below w2.heap.size w2 ((w2.alloc (.cells (recCells .nil (.slice none 0 0) (.slice none 0 0)) 49)).setRow w2.heap.size (recCells r vt' vp')) := below_setRow ((Below.refl _ _).alloc (Nat.le_refl _) _) (Nat.le_refl _) _
 have HL3 := Lib.hid (hl'.keep hb3)
 have HB3 := Lib.hid (HB2.out.trans (hb3.mono HB2.out.size))
 clear hb2 hl' B2 hb3 B1 HB1 HR HB2
 go_wp2_with (first
   | (refine wpList_store_row rfl 49 _ _ rfl w2.heap.size _ rfl rfl 49 _ hn (by kernel_rfl) rfl one ?_)
   | (refine wpList_load_rowG rfl 49 _ rfl w2.heap.size rfl 49 _ (0, 0) _ N3 Tryz.underlying49 rfl (by kernel_rfl) ?_)
   | (refine wpList_load_rowG rfl 49 _ rfl w.heap.size rfl 49 _ (0, 0) _ B3 Tryz.underlying49 rfl (by kernel_rfl) ?_))
 refine (same_any (a := r) (b := r) ⟨vt', vp', rfl, HL3.out⟩ (HV.out.keep HB3.out) true (by simp)).mono ?_
 rintro e w4 ⟨rfl, hb4⟩
 have LB := Lib.hid (HB3.out.trans (hb4.mono HB3.out.size))
 clear hb4 HL3 HB3 B3 N3 hn HV one
 go_wp2
 go_ret2
 exact ⟨rfl, LB.out⟩
set_option maxRecDepth 100000 in
set_option maxHeartbeats 8000000 in
theorem print_neq {w : World} {v : Value} {r : Rc} (hv : IsRec w v r) (hf : Fit r) {x : Rc} {l : List UInt8} (hp : recP (lay r) = some (x, l)) (hne : ¬ x = r) :
   Calls Tryz.prog 50 #[v] w fun e w' => e = .returned (.tuple #[.string ⟨#[]⟩, .int .i64 1]) ∧ Below w.heap.size w w' := by
 have HL := Lib.hid (fun W (hb : Below w.heap.size w W) => lay_any (hv.keep hb) hf)
 have hrr := readR_lay r
 rw [hp] at hrr
 change _ = (x, ((⟨(lay r).toArray⟩ : ByteArray).size : Int) - (l.length : Int), (0 : Int)) at hrr
 generalize ((⟨(lay r).toArray⟩ : ByteArray).size : Int) - (l.length : Int) = nn at hrr
 have HNE := Lib.hid hne
 have hlen := lay_len hf
 have HR := Lib.hid (fun W => rdRead_as ⟨(lay r).toArray⟩ 0 W hrr (by rw [show (⟨(lay r).toArray⟩ : ByteArray).size = (lay r).length from by simp [ByteArray.size]]; unfold maxLen; omega))
 have HV := Lib.hid hv
 obtain ⟨vt, vp, rfl, hl⟩ := hv
 have B0 := Lib.hid (Blk.new w 49 (recCells r vt vp))
 have hb0 : Below w.heap.size w (w.alloc (.cells (recCells r vt vp) 49)) := (Below.refl _ _).alloc (Nat.le_refl _) _
 have HB0 := Lib.hid hb0
 clear hl hb0 hrr hf hlen hp hne
 generalize (⟨(lay r).toArray⟩ : ByteArray) = s at *
 unfold recV
 go_enter Tryz.func50, Tryz.ntmps50
 have bx := B0.out
 go_wp2_with (refine wpList_load_row rfl 49 _ rfl w.heap.size rfl 49 _ (0, 0) _ bx Tryz.underlying49 rfl (by kernel_rfl) ?_)
 clear bx
 refine (HL.out _ HB0.out).mono ?_
 rintro e w1 ⟨rfl, hb1⟩
 have B1 := Lib.hid (B0.out.keep hb1 B0.out.lt)
 have HB1 := Lib.hid (HB0.out.trans (hb1.mono HB0.out.size))
 clear hb1 HL B0 HB0
 go_wp2_with fail
 refine (HR.out _).mono ?_
 rintro e w2 ⟨v', rfl, ⟨vt', vp', hv', hl'⟩, hb2⟩
 subst hv'
 have B2 := B1.out.keep hb2 B1.out.lt
 have HB2 := Lib.hid (HB1.out.trans (hb2.mono HB1.out.size))
 have one := hl'.one
 have hn := Blk.new w2 49 (recCells .nil (.slice none 0 0) (.slice none 0 0))
 have B3 := (B2.alloc (.cells (recCells .nil (.slice none 0 0) (.slice none 0 0)) 49)).farRow (k := w2.heap.size) (by have := B2.lt; omega) (recCells x vt' vp')
 have N3 := hn.setRow (recCells x vt' vp')
 have hb3 : Below w2.heap.size w2 ((w2.alloc (.cells (recCells .nil (.slice none 0 0) (.slice none 0 0)) 49)).setRow w2.heap.size (recCells x vt' vp')) := below_setRow ((Below.refl _ _).alloc (Nat.le_refl _) _) (Nat.le_refl _) _
 have HL3 := Lib.hid (hl'.keep hb3)
 have HB3 := Lib.hid (HB2.out.trans (hb3.mono HB2.out.size))
 clear hb2 hl' B2 hb3 B1 HB1 HR HB2
 go_wp2_with (first
   | (refine wpList_store_row rfl 49 _ _ rfl w2.heap.size _ rfl rfl 49 _ hn (by kernel_rfl) rfl one ?_)
   | (refine wpList_load_rowG rfl 49 _ rfl w2.heap.size rfl 49 _ (0, 0) _ N3 Tryz.underlying49 rfl (by kernel_rfl) ?_)
   | (refine wpList_load_rowG rfl 49 _ rfl w.heap.size rfl 49 _ (0, 0) _ B3 Tryz.underlying49 rfl (by kernel_rfl) ?_))
 refine (same_any (a := x) (b := r) ⟨vt', vp', rfl, HL3.out⟩ (HV.out.keep HB3.out) false (by simpa using HNE.out)).mono ?_
 rintro e w4 ⟨rfl, hb4⟩
 have LB := Lib.hid (HB3.out.trans (hb4.mono HB3.out.size))
 clear hb4 HL3 HB3 B3 N3 hn HV one
 go_wp2
 go_ret2
 exact ⟨rfl, LB.out⟩
set_option maxRecDepth 100000 in
set_option maxHeartbeats 8000000 in
theorem print_err {w : World} {v : Value} {r : Rc} (hv : IsRec w v r) (hf : Fit r) (hp : recP (lay r) = none) :
   Calls Tryz.prog 50 #[v] w fun e w' => e = .returned (.tuple #[.string ⟨#[]⟩, .int .i64 1]) ∧ Below w.heap.size w w' := by
 have HL := Lib.hid (fun W (hb : Below w.heap.size w W) => lay_any (hv.keep hb) hf)
 have hrr := readR_lay r
 rw [hp] at hrr
 change _ = (Rc.nil, (0 : Int), (3 : Int)) at hrr
 have hlen := lay_len hf
 have HR := Lib.hid (fun W => rdRead_as ⟨(lay r).toArray⟩ 0 W hrr (by rw [show (⟨(lay r).toArray⟩ : ByteArray).size = (lay r).length from by simp [ByteArray.size]]; unfold maxLen; omega))
 have HV := Lib.hid hv
 obtain ⟨vt, vp, rfl, hl⟩ := hv
 have B0 := Lib.hid (Blk.new w 49 (recCells r vt vp))
 have hb0 : Below w.heap.size w (w.alloc (.cells (recCells r vt vp) 49)) := (Below.refl _ _).alloc (Nat.le_refl _) _
 have HB0 := Lib.hid hb0
 clear hl hb0 hrr hf hlen hp
 generalize (⟨(lay r).toArray⟩ : ByteArray) = s at *
 unfold recV
 go_enter Tryz.func50, Tryz.ntmps50
 have bx := B0.out
 go_wp2_with (refine wpList_load_row rfl 49 _ rfl w.heap.size rfl 49 _ (0, 0) _ bx Tryz.underlying49 rfl (by kernel_rfl) ?_)
 clear bx
 refine (HL.out _ HB0.out).mono ?_
 rintro e w1 ⟨rfl, hb1⟩
 have B1 := Lib.hid (B0.out.keep hb1 B0.out.lt)
 have HB1 := Lib.hid (HB0.out.trans (hb1.mono HB0.out.size))
 clear hb1 HL B0 HB0
 go_wp2_with fail
 refine (HR.out _).mono ?_
 rintro e w2 ⟨v', rfl, ⟨vt', vp', hv', hl'⟩, hb2⟩
 subst hv'
 have B2 := B1.out.keep hb2 B1.out.lt
 have HB2 := Lib.hid (HB1.out.trans (hb2.mono HB1.out.size))
 have one := hl'.one
 have hn := Blk.new w2 49 (recCells .nil (.slice none 0 0) (.slice none 0 0))
 have B3 := (B2.alloc (.cells (recCells .nil (.slice none 0 0) (.slice none 0 0)) 49)).farRow (k := w2.heap.size) (by have := B2.lt; omega) (recCells Rc.nil vt' vp')
 have N3 := hn.setRow (recCells Rc.nil vt' vp')
 have hb3 : Below w2.heap.size w2 ((w2.alloc (.cells (recCells .nil (.slice none 0 0) (.slice none 0 0)) 49)).setRow w2.heap.size (recCells Rc.nil vt' vp')) := below_setRow ((Below.refl _ _).alloc (Nat.le_refl _) _) (Nat.le_refl _) _
 have HL3 := Lib.hid (hl'.keep hb3)
 have HB3 := Lib.hid (HB2.out.trans (hb3.mono HB2.out.size))
 clear hb2 hl' B2 hb3 B1 HB1 HR HB2
 clear B3 N3
 go_wp2_with (refine wpList_store_row rfl 49 _ _ rfl w2.heap.size _ rfl rfl 49 _ hn (by kernel_rfl) rfl one ?_)
 go_ret2
 exact ⟨rfl, HB3.out⟩
theorem print_no {w : World} {v : Value} {r : Rc} (hv : IsRec w v r) (hf : Fit r) (hm : ¬ May r) :
   Calls Tryz.prog 50 #[v] w fun e w' => e = .returned (.tuple #[.string ⟨#[]⟩, .int .i64 1]) ∧ Below w.heap.size w w' := by
 cases hp : recP (lay r) with
 | none => exact print_err hv hf hp
 | some x =>
   obtain ⟨x, l⟩ := x
   refine print_neq hv hf hp ?_
   rintro rfl
   exact hm (recP_some hp).1
end Go.Proofs.YtbplgbkbggmaeaaGreat

namespace Go.Proofs.YtbplgbkbggmaeaaGreat
open Go.RowKit
theorem may_small {r : Rc} (h : May r) : r.after.size ≤ 16 ∧ r.txns.length ≤ 4 ∧ r.pages.length ≤ 8 := by
 cases h with
 | @upd t p pg o b a ht hn hp hs hb =>
   obtain ⟨_, _, ⟨h1, h2⟩, _⟩ := hs
   exact ⟨h2, Nat.zero_le _, Nat.zero_le _⟩
 | @und t p n pg o a ht hn hp hx hs =>
   obtain ⟨_, _, ⟨h1, h2⟩, _⟩ := hs
   exact ⟨h2, Nat.zero_le _, Nat.zero_le _⟩
 | @com k t p hk ht hn hp => exact ⟨Nat.zero_le _, Nat.zero_le _, Nat.zero_le _⟩
 | beg => exact ⟨Nat.zero_le _, Nat.zero_le _, Nat.zero_le _⟩
 | @tab b ts ps hb ht hp h3 h2 => exact ⟨Nat.zero_le _, ht, hp⟩
theorem lay_short {r : Rc} (h : May r) : (lay r).length ≤ 112 := by
 obtain ⟨h1, h2, h3⟩ := may_small h
 rcases lay_long h with ⟨hk, hl⟩ | ⟨hk, hl⟩ | ⟨hk, hl⟩ | ⟨hk, hl⟩ | ⟨hk, hl⟩ | ⟨hk, hl⟩ <;> omega
end Go.Proofs.YtbplgbkbggmaeaaGreat
