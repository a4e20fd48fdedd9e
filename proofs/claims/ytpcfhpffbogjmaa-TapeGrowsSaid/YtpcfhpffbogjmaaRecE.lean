/- Package record: the reader takes a record. -/
import Derived.Test.YtpcfhpffbogjmaaRecD
namespace Go.Proofs.Ytpcfhpffbogjmaa
open Go.RowKit

/-- What the reading of a record comes to. -/
def GotRec (w : World) (g : Nat) (s : ByteArray) (o : Option (Rc × List UInt8)) (e : Ending) (w' : World) : Prop :=
  match o with
  | some (r, l) => ∃ vt vp, e = .returned (recV r vt vp) ∧ Lists w' r vt vp ∧ Rd w' g s l ∧ Only (· = g) w w' ∧ New w vt ∧ New w vp
  | none => e = .panicked gaveUp ∧ Only (· = g) w w'

/-- While a record is read: the box for what is answered, the record, the reader. -/
structure Reading (w wr : World) (g q : Nat) (s : ByteArray) (l : List UInt8) (r : Rc) (vt vp : Value) : Prop where
  fill : Fill wr g q s l r vt vp
  box : Blk wr w.heap.size 50 (recCells .nil (.slice none 0 0) (.slice none 0 0))
  only : Only (· = g) w wr
  old : g < w.heap.size
  new : w.heap.size < q
namespace Reading
variable {w wr w' : World} {g q : Nat} {s : ByteArray} {l l' : List UInt8} {r r' : Rc} {vt vp vt' vp' : Value}
theorem step (h : Reading w wr g q s l r vt vp) (hf : Fill w' g q s l' r' vt' vp') (ho : Only (Two g q) wr w') : Reading w w' g q s l' r' vt' vp' :=
  ⟨hf, ho.blk h.box (by have := h.old; have := h.new; rintro (e | e) <;> omega), h.only.and_ ho fun b hb => hb.elim .inl fun e => .inr (by have := h.new; omega), h.old, h.new⟩
theorem gone (h : Reading w wr g q s l r vt vp) (ho : Only (Two g q) wr w') : Only (· = g) w w' := h.only.and_ ho fun b hb => hb.elim .inl fun e => .inr (by have := h.new; omega)
theorem took (h : Reading w wr g q s l r vt vp) (hr : Rd w' g s l') (ho : Only (· = g) wr w') : Reading w w' g q s l' r vt vp := h.step (h.fill.took hr ho) (only2 ho)
theorem set (h : Reading w wr g q s l r vt vp) (i : Nat) (v : Value) {cs : Array Value} (hc : (recCells r vt vp).setIfInBounds i v = cs) (hcs : cs = recCells r' vt vp) : Reading w (wr.setCell ⟨q, i, none⟩ v) g q s l r' vt vp :=
  h.step (h.fill.set i v hc hcs) (only2set (Only.refl _ _) i v)
/-- The record is handed over. -/
theorem over (h : Reading w wr g q s l r vt vp) (hl : Lists wr r vt vp) (ht : New w vt) (hp : New w vp) (h1 : ∀ b, vt.ownBlock = some b → b ≠ w.heap.size) (h2 : ∀ b, vp.ownBlock = some b → b ≠ w.heap.size) :
    Lists (wr.setRow w.heap.size (recCells r vt vp)) r vt vp ∧ Rd (wr.setRow w.heap.size (recCells r vt vp)) g s l ∧ Only (· = g) w (wr.setRow w.heap.size (recCells r vt vp)) ∧ New w vt ∧ New w vp := by
  have hs : Only (· = w.heap.size) wr (wr.setRow w.heap.size (recCells r vt vp)) := (Only.refl (· = w.heap.size) wr).setRow (g := w.heap.size) (.inl rfl) _
  obtain ⟨k, a, b, c, d⟩ := h.fill.rd
  exact ⟨hl.keepS hs h1 h2, ⟨k, a, b, c, d.farRow (by have := h.old; omega) _⟩, h.only.setRow (.inr (Nat.le_refl _)) _, ht, hp⟩
end Reading

set_option maxRecDepth 100000 in
set_option maxHeartbeats 8000000 in
theorem record_any {w : World} {g : Nat} {s : ByteArray} {l : List UInt8} (h : Rd w g s l) (o : Option (Rc × List UInt8)) (ho : o = recP l) :
    Calls Try.prog 64 #[.pointer (some ⟨g, 0, none⟩)] w (GotRec w g s o) := by
  unfold recP at ho
  have HO := Lib.hid ho
  have R0 := Lib.hid h
  clear ho h
  go_enter Try.func64, Try.ntmps64
  go_wp2_with fail
  have hr0 : Rd (w.alloc (.cells (recCells .nil (.slice none 0 0) (.slice none 0 0)) 50)) g s l := by
    obtain ⟨k, h1, h2, h3, h4⟩ := R0.out
    exact ⟨k, h1, h2, h3, h4.alloc _⟩
  have hg0 : g < w.heap.size := by
    obtain ⟨k, h1, h2, h3, h4⟩ := R0.out
    exact h4.lt
  have hbx := Blk.new w 50 (recCells .nil (.slice none 0 0) (.slice none 0 0))
  have ho0 := (Only.refl (· = g) w).alloc (.cells (recCells .nil (.slice none 0 0) (.slice none 0 0)) 50)
  change Calls _ _ _ (w.alloc (.cells (recCells .nil (.slice none 0 0) (.slice none 0 0)) 50)) _
  have hs0 : w.heap.size < (w.alloc (.cells (recCells .nil (.slice none 0 0) (.slice none 0 0)) 50)).heap.size := by simp
  generalize w.alloc (.cells (recCells .nil (.slice none 0 0) (.slice none 0 0)) 50) = w0 at *
  refine (small_any hr0 1 6).mono ?_
  intro e w1 ht
  rcases ht.int with ⟨hp, rfl, ho⟩ | ⟨k, l1, hp, rfl, hr, ho⟩
  · rw [hp] at HO
    obtain rfl : o = none := HO.out
    have W := Lib.hid (ho0.trans ho)
    clear ho HO hp ht hr0 R0 hbx ho0
    go_wp2
    exact ⟨rfl, rfl, W.out⟩
  have HO2 := HO.out
  rw [hp, Option.bind_some] at HO2
  dsimp only at HO2
  replace HO := Lib.hid HO2
  obtain ⟨_, k1, k2, _, _⟩ := smallP_some hp
  have G0 : Hid (Reading w (w1.alloc (.cells (recCells { Rc.nil with kind := k } (.slice none 0 0) (.slice none 0 0)) 50)) g w1.heap.size s l1 { Rc.nil with kind := k } (.slice none 0 0) (.slice none 0 0)) := by
    have h1 := hr
    obtain ⟨a, b, c, d, e⟩ := h1
    have hsz := ho.size
    exact ⟨⟨⟨a, b, c, d, e.alloc _⟩, Blk.new _ _ _, by have := e.lt; show w1.heap.size ≠ g; omega⟩, (ho.blk hbx (by show ¬ w.heap.size = g; omega)).alloc _, (ho0.trans ho).alloc _, hg0, by omega⟩
  clear hr0 hbx ho0 hr ho ht hp HO2 R0 hg0 hs0
  have hk : k = 1 ∨ k = 2 ∨ k = 3 ∨ k = 4 ∨ k = 5 ∨ k = 6 := by omega
  clear k1 k2
  rcases hk with rfl | rfl | rfl | rfl | rfl | rfl
  · -- kind 1
    rw [if_pos (by first | decide | trivial | simp)] at HO
    go_wp2_with fail
    change Calls _ _ _ (w1.alloc (.cells (recCells { Rc.nil with kind := 1 } (.slice none 0 0) (.slice none 0 0)) 50)) _
    generalize w1.alloc (.cells (recCells { Rc.nil with kind := 1 } (.slice none 0 0) (.slice none 0 0)) 50) = w2 at *
    generalize w1.heap.size = q at *
    have G := G0
    clear G0
    refine (rdnum1 G.out.fill.rd).mono ?_
    intro e w3a ht
    rcases ht.int with ⟨hp, rfl, ho⟩ | ⟨t, l2, hp, rfl, hr, ho⟩
    · rw [hp] at HO
      obtain rfl : o = none := HO.out
      have W := Lib.hid (G.out.gone (only2 (q := q) ho))
      clear ho HO hp G ht
      go_wp2
      exact ⟨rfl, rfl, W.out⟩
    have HO2 := HO.out
    rw [hp, Option.bind_some] at HO2
    dsimp only at HO2
    replace HO := Lib.hid HO2
    have g1 := G.out.took hr ho
    have cc := g1.fill.row.cell 1
    have zz := g1.fill.row.frozen 1
    simp [recCells, Rc.nil] at cc
    have G2 := Lib.hid (g1.set 1 (.int .i64 t) rfl (r' := { Rc.nil with kind := 1, txn := t }) rfl)
    clear g1 hr ho G hp ht HO2
    go_wp2_with fail
    generalize w3a.setCell ⟨q, 1, none⟩ (.int .i64 t) = w3 at *
    clear cc zz
    have G := G2
    clear G2
    refine (rdnum0 G.out.fill.rd).mono ?_
    intro e w4a ht
    rcases ht.int with ⟨hp, rfl, ho⟩ | ⟨p, l3, hp, rfl, hr, ho⟩
    · rw [hp] at HO
      obtain rfl : o = none := HO.out
      have W := Lib.hid (G.out.gone (only2 (q := q) ho))
      clear ho HO hp G ht
      go_wp2
      exact ⟨rfl, rfl, W.out⟩
    have HO2 := HO.out
    rw [hp, Option.bind_some] at HO2
    dsimp only at HO2
    replace HO := Lib.hid HO2
    have g1 := G.out.took hr ho
    have cc := g1.fill.row.cell 4
    have zz := g1.fill.row.frozen 4
    simp [recCells, Rc.nil] at cc
    have G2 := Lib.hid (g1.set 4 (.int .i64 p) rfl (r' := { Rc.nil with kind := 1, txn := t, prev := p }) rfl)
    clear g1 hr ho G hp ht HO2
    have c0 := G2.out.fill.row.cell 0
    simp [recCells] at c0
    go_wp2_with fail
    generalize w4a.setCell ⟨q, 4, none⟩ (.int .i64 p) = w4 at *
    clear cc zz
    have G := G2
    clear G2
    have HO2 := HO.out
    rw [if_neg (by first | decide | simp), if_pos (by first | trivial | simp)] at HO2
    refine (change_any G.out.fill o HO2).mono ?_
    clear HO
    intro e w7 ht
    cases o with
    | none =>
      obtain ⟨rfl, ho⟩ := ht
      have W := Lib.hid (G.out.gone ho)
      clear ho G HO2
      go_wp2
      exact ⟨rfl, rfl, W.out⟩
    | some x =>
      obtain ⟨r, l7⟩ := x
      obtain ⟨rfl, hf, ho⟩ := ht
      have hrows := changeP_rows HO2.symm
      have LST := Lib.hid (Lists.nil w7 r hrows.1 hrows.2)
      have G2 := Lib.hid (G.out.step hf ho)
      clear hf ho G HO2 hrows
      have G := G2
      clear G2
      have row := G.out.fill.row
      have box := G.out.box
      have one := LST.out.one
      have OV := Lib.hid (G.out.over LST.out (New.nil _) (New.nil _) (fun b h => by cases h) (fun b h => by cases h))
      go_wp2_with (first
        | (refine wpList_load_row rfl 50 _ rfl q rfl 50 _ (0, 0) _ row Try.underlying50 rfl (by kernel_rfl) ?_)
        | (refine wpList_store_row rfl 50 _ _ rfl w.heap.size _ rfl rfl 50 _ box (by kernel_rfl) rfl one ?_))
      exact bodyPost_ret (results_cell_row rfl _ _ w.heap.size 50 _ (0, 0) _ rfl (box.setRow _) Try.underlying50 rfl (by kernel_rfl)) rfl ⟨_, _, rfl, OV.out⟩
  · -- kind 2
    rw [if_pos (by first | decide | trivial | simp)] at HO
    go_wp2_with fail
    change Calls _ _ _ (w1.alloc (.cells (recCells { Rc.nil with kind := 2 } (.slice none 0 0) (.slice none 0 0)) 50)) _
    generalize w1.alloc (.cells (recCells { Rc.nil with kind := 2 } (.slice none 0 0) (.slice none 0 0)) 50) = w2 at *
    generalize w1.heap.size = q at *
    have G := G0
    clear G0
    refine (rdnum1 G.out.fill.rd).mono ?_
    intro e w3a ht
    rcases ht.int with ⟨hp, rfl, ho⟩ | ⟨t, l2, hp, rfl, hr, ho⟩
    · rw [hp] at HO
      obtain rfl : o = none := HO.out
      have W := Lib.hid (G.out.gone (only2 (q := q) ho))
      clear ho HO hp G ht
      go_wp2
      exact ⟨rfl, rfl, W.out⟩
    have HO2 := HO.out
    rw [hp, Option.bind_some] at HO2
    dsimp only at HO2
    replace HO := Lib.hid HO2
    have g1 := G.out.took hr ho
    have cc := g1.fill.row.cell 1
    have zz := g1.fill.row.frozen 1
    simp [recCells, Rc.nil] at cc
    have G2 := Lib.hid (g1.set 1 (.int .i64 t) rfl (r' := { Rc.nil with kind := 2, txn := t }) rfl)
    clear g1 hr ho G hp ht HO2
    go_wp2_with fail
    generalize w3a.setCell ⟨q, 1, none⟩ (.int .i64 t) = w3 at *
    clear cc zz
    have G := G2
    clear G2
    refine (rdnum0 G.out.fill.rd).mono ?_
    intro e w4a ht
    rcases ht.int with ⟨hp, rfl, ho⟩ | ⟨p, l3, hp, rfl, hr, ho⟩
    · rw [hp] at HO
      obtain rfl : o = none := HO.out
      have W := Lib.hid (G.out.gone (only2 (q := q) ho))
      clear ho HO hp G ht
      go_wp2
      exact ⟨rfl, rfl, W.out⟩
    have HO2 := HO.out
    rw [hp, Option.bind_some] at HO2
    dsimp only at HO2
    replace HO := Lib.hid HO2
    have g1 := G.out.took hr ho
    have cc := g1.fill.row.cell 4
    have zz := g1.fill.row.frozen 4
    simp [recCells, Rc.nil] at cc
    have G2 := Lib.hid (g1.set 4 (.int .i64 p) rfl (r' := { Rc.nil with kind := 2, txn := t, prev := p }) rfl)
    clear g1 hr ho G hp ht HO2
    have c0 := G2.out.fill.row.cell 0
    simp [recCells] at c0
    go_wp2_with fail
    generalize w4a.setCell ⟨q, 4, none⟩ (.int .i64 p) = w4 at *
    clear cc zz
    have G := G2
    clear G2
    rw [if_pos (by first | trivial | simp)] at HO
    refine (rdnum0 G.out.fill.rd).mono ?_
    intro e w5a ht
    rcases ht.int with ⟨hp, rfl, ho⟩ | ⟨n, l4, hp, rfl, hr, ho⟩
    · rw [hp] at HO
      obtain rfl : o = none := HO.out
      have W := Lib.hid (G.out.gone (only2 (q := q) ho))
      clear ho HO hp G ht
      go_wp2
      exact ⟨rfl, rfl, W.out⟩
    have HO2 := HO.out
    rw [hp, Option.bind_some] at HO2
    dsimp only at HO2
    replace HO := Lib.hid HO2
    have g1 := G.out.took hr ho
    have cc := g1.fill.row.cell 5
    have zz := g1.fill.row.frozen 5
    simp [recCells, Rc.nil] at cc
    have G2 := Lib.hid (g1.set 5 (.int .i64 n) rfl (r' := { Rc.nil with kind := 2, txn := t, prev := p, next := n }) rfl)
    clear g1 hr ho G hp ht HO2
    go_wp2_with fail
    generalize w5a.setCell ⟨q, 5, none⟩ (.int .i64 n) = w5 at *
    clear cc zz
    have G := G2
    clear G2
    have HO2 := HO.out
    refine (change_any G.out.fill o HO2).mono ?_
    clear HO
    intro e w7 ht
    cases o with
    | none =>
      obtain ⟨rfl, ho⟩ := ht
      have W := Lib.hid (G.out.gone ho)
      clear ho G HO2
      go_wp2
      exact ⟨rfl, rfl, W.out⟩
    | some x =>
      obtain ⟨r, l7⟩ := x
      obtain ⟨rfl, hf, ho⟩ := ht
      have hrows := changeP_rows HO2.symm
      have LST := Lib.hid (Lists.nil w7 r hrows.1 hrows.2)
      have G2 := Lib.hid (G.out.step hf ho)
      clear hf ho G HO2 hrows
      have G := G2
      clear G2
      have row := G.out.fill.row
      have box := G.out.box
      have one := LST.out.one
      have OV := Lib.hid (G.out.over LST.out (New.nil _) (New.nil _) (fun b h => by cases h) (fun b h => by cases h))
      go_wp2_with (first
        | (refine wpList_load_row rfl 50 _ rfl q rfl 50 _ (0, 0) _ row Try.underlying50 rfl (by kernel_rfl) ?_)
        | (refine wpList_store_row rfl 50 _ _ rfl w.heap.size _ rfl rfl 50 _ box (by kernel_rfl) rfl one ?_))
      exact bodyPost_ret (results_cell_row rfl _ _ w.heap.size 50 _ (0, 0) _ rfl (box.setRow _) Try.underlying50 rfl (by kernel_rfl)) rfl ⟨_, _, rfl, OV.out⟩
  · -- kind 3
    rw [if_pos (by first | decide | trivial | simp)] at HO
    go_wp2_with fail
    change Calls _ _ _ (w1.alloc (.cells (recCells { Rc.nil with kind := 3 } (.slice none 0 0) (.slice none 0 0)) 50)) _
    generalize w1.alloc (.cells (recCells { Rc.nil with kind := 3 } (.slice none 0 0) (.slice none 0 0)) 50) = w2 at *
    generalize w1.heap.size = q at *
    have G := G0
    clear G0
    refine (rdnum1 G.out.fill.rd).mono ?_
    intro e w3a ht
    rcases ht.int with ⟨hp, rfl, ho⟩ | ⟨t, l2, hp, rfl, hr, ho⟩
    · rw [hp] at HO
      obtain rfl : o = none := HO.out
      have W := Lib.hid (G.out.gone (only2 (q := q) ho))
      clear ho HO hp G ht
      go_wp2
      exact ⟨rfl, rfl, W.out⟩
    have HO2 := HO.out
    rw [hp, Option.bind_some] at HO2
    dsimp only at HO2
    replace HO := Lib.hid HO2
    have g1 := G.out.took hr ho
    have cc := g1.fill.row.cell 1
    have zz := g1.fill.row.frozen 1
    simp [recCells, Rc.nil] at cc
    have G2 := Lib.hid (g1.set 1 (.int .i64 t) rfl (r' := { Rc.nil with kind := 3, txn := t }) rfl)
    clear g1 hr ho G hp ht HO2
    go_wp2_with fail
    generalize w3a.setCell ⟨q, 1, none⟩ (.int .i64 t) = w3 at *
    clear cc zz
    have G := G2
    clear G2
    refine (rdnum0 G.out.fill.rd).mono ?_
    intro e w4a ht
    rcases ht.int with ⟨hp, rfl, ho⟩ | ⟨p, l3, hp, rfl, hr, ho⟩
    · rw [hp] at HO
      obtain rfl : o = none := HO.out
      have W := Lib.hid (G.out.gone (only2 (q := q) ho))
      clear ho HO hp G ht
      go_wp2
      exact ⟨rfl, rfl, W.out⟩
    have HO2 := HO.out
    rw [hp, Option.bind_some] at HO2
    dsimp only at HO2
    replace HO := Lib.hid HO2
    have g1 := G.out.took hr ho
    have cc := g1.fill.row.cell 4
    have zz := g1.fill.row.frozen 4
    simp [recCells, Rc.nil] at cc
    have G2 := Lib.hid (g1.set 4 (.int .i64 p) rfl (r' := { Rc.nil with kind := 3, txn := t, prev := p }) rfl)
    clear g1 hr ho G hp ht HO2
    have c0 := G2.out.fill.row.cell 0
    simp [recCells] at c0
    have HO2 := HO.out
    rw [if_neg (by first | decide | simp), if_neg (by first | decide | simp)] at HO2
    subst HO2
    clear HO
    have LST := Lib.hid (Lists.nil (w4a.setCell ⟨q, 4, none⟩ (.int .i64 p)) { Rc.nil with kind := 3, txn := t, prev := p } rfl rfl)
    have G := G2
    clear G2
    have row := G.out.fill.row
    have box := G.out.box
    have one := LST.out.one
    have OV := Lib.hid (G.out.over LST.out (New.nil _) (New.nil _) (fun b h => by cases h) (fun b h => by cases h))
    go_wp2_with (first
      | (refine wpList_load_row rfl 50 _ rfl q rfl 50 _ (0, 0) _ row Try.underlying50 rfl (by kernel_rfl) ?_)
      | (refine wpList_store_row rfl 50 _ _ rfl w.heap.size _ rfl rfl 50 _ box (by kernel_rfl) rfl one ?_))
    exact bodyPost_ret (results_cell_row rfl _ _ w.heap.size 50 _ (0, 0) _ rfl (box.setRow _) Try.underlying50 rfl (by kernel_rfl)) rfl ⟨_, _, rfl, OV.out⟩
  · -- kind 4
    rw [if_pos (by first | decide | trivial | simp)] at HO
    go_wp2_with fail
    change Calls _ _ _ (w1.alloc (.cells (recCells { Rc.nil with kind := 4 } (.slice none 0 0) (.slice none 0 0)) 50)) _
    generalize w1.alloc (.cells (recCells { Rc.nil with kind := 4 } (.slice none 0 0) (.slice none 0 0)) 50) = w2 at *
    generalize w1.heap.size = q at *
    have G := G0
    clear G0
    refine (rdnum1 G.out.fill.rd).mono ?_
    intro e w3a ht
    rcases ht.int with ⟨hp, rfl, ho⟩ | ⟨t, l2, hp, rfl, hr, ho⟩
    · rw [hp] at HO
      obtain rfl : o = none := HO.out
      have W := Lib.hid (G.out.gone (only2 (q := q) ho))
      clear ho HO hp G ht
      go_wp2
      exact ⟨rfl, rfl, W.out⟩
    have HO2 := HO.out
    rw [hp, Option.bind_some] at HO2
    dsimp only at HO2
    replace HO := Lib.hid HO2
    have g1 := G.out.took hr ho
    have cc := g1.fill.row.cell 1
    have zz := g1.fill.row.frozen 1
    simp [recCells, Rc.nil] at cc
    have G2 := Lib.hid (g1.set 1 (.int .i64 t) rfl (r' := { Rc.nil with kind := 4, txn := t }) rfl)
    clear g1 hr ho G hp ht HO2
    go_wp2_with fail
    generalize w3a.setCell ⟨q, 1, none⟩ (.int .i64 t) = w3 at *
    clear cc zz
    have G := G2
    clear G2
    refine (rdnum0 G.out.fill.rd).mono ?_
    intro e w4a ht
    rcases ht.int with ⟨hp, rfl, ho⟩ | ⟨p, l3, hp, rfl, hr, ho⟩
    · rw [hp] at HO
      obtain rfl : o = none := HO.out
      have W := Lib.hid (G.out.gone (only2 (q := q) ho))
      clear ho HO hp G ht
      go_wp2
      exact ⟨rfl, rfl, W.out⟩
    have HO2 := HO.out
    rw [hp, Option.bind_some] at HO2
    dsimp only at HO2
    replace HO := Lib.hid HO2
    have g1 := G.out.took hr ho
    have cc := g1.fill.row.cell 4
    have zz := g1.fill.row.frozen 4
    simp [recCells, Rc.nil] at cc
    have G2 := Lib.hid (g1.set 4 (.int .i64 p) rfl (r' := { Rc.nil with kind := 4, txn := t, prev := p }) rfl)
    clear g1 hr ho G hp ht HO2
    have c0 := G2.out.fill.row.cell 0
    simp [recCells] at c0
    have HO2 := HO.out
    rw [if_neg (by first | decide | simp), if_neg (by first | decide | simp)] at HO2
    subst HO2
    clear HO
    have LST := Lib.hid (Lists.nil (w4a.setCell ⟨q, 4, none⟩ (.int .i64 p)) { Rc.nil with kind := 4, txn := t, prev := p } rfl rfl)
    have G := G2
    clear G2
    have row := G.out.fill.row
    have box := G.out.box
    have one := LST.out.one
    have OV := Lib.hid (G.out.over LST.out (New.nil _) (New.nil _) (fun b h => by cases h) (fun b h => by cases h))
    go_wp2_with (first
      | (refine wpList_load_row rfl 50 _ rfl q rfl 50 _ (0, 0) _ row Try.underlying50 rfl (by kernel_rfl) ?_)
      | (refine wpList_store_row rfl 50 _ _ rfl w.heap.size _ rfl rfl 50 _ box (by kernel_rfl) rfl one ?_))
    exact bodyPost_ret (results_cell_row rfl _ _ w.heap.size 50 _ (0, 0) _ rfl (box.setRow _) Try.underlying50 rfl (by kernel_rfl)) rfl ⟨_, _, rfl, OV.out⟩
  · -- kind 5
    rw [if_neg (by first | decide | simp), if_neg (by first | decide | simp)] at HO
    have HO2 := HO.out
    subst HO2
    clear HO
    have G := G0
    clear G0
    have LST := Lib.hid (Lists.nil (w1.alloc (.cells (recCells { Rc.nil with kind := 5 } (.slice none 0 0) (.slice none 0 0)) 50)) { Rc.nil with kind := 5 } rfl rfl)
    have row := G.out.fill.row
    have box := G.out.box
    have one := LST.out.one
    have OV := Lib.hid (G.out.over LST.out (New.nil _) (New.nil _) (fun b h => by cases h) (fun b h => by cases h))
    go_wp2_with (first
      | (refine wpList_load_row rfl 50 _ rfl w1.heap.size rfl 50 _ (0, 0) _ row Try.underlying50 rfl (by kernel_rfl) ?_)
      | (refine wpList_store_row rfl 50 _ _ rfl w.heap.size _ rfl rfl 50 _ box (by kernel_rfl) rfl one ?_))
    exact bodyPost_ret (results_cell_row rfl _ _ w.heap.size 50 _ (0, 0) _ rfl (box.setRow _) Try.underlying50 rfl (by kernel_rfl)) rfl ⟨_, _, rfl, OV.out⟩
  · -- kind 6
    rw [if_neg (by first | decide | simp), if_pos (by first | trivial | simp)] at HO
    go_wp2_with fail
    change Calls _ _ _ (w1.alloc (.cells (recCells { Rc.nil with kind := 6 } (.slice none 0 0) (.slice none 0 0)) 50)) _
    generalize w1.alloc (.cells (recCells { Rc.nil with kind := 6 } (.slice none 0 0) (.slice none 0 0)) 50) = w2 at *
    generalize w1.heap.size = q at *
    have G := G0
    clear G0
    have HO2 := HO.out
    refine (tables_any G.out.fill o HO2).mono ?_
    clear HO
    intro e w7 ht
    cases o with
    | none =>
      obtain ⟨rfl, ho⟩ := ht
      have W := Lib.hid (G.out.gone ho)
      clear ho G HO2
      go_wp2
      exact ⟨rfl, rfl, W.out⟩
    | some x =>
      obtain ⟨r, l7⟩ := x
      obtain ⟨rfl, vt, vp, hf, hl, ho, nt, np⟩ := ht
      have LST := Lib.hid hl
      have hws := Lib.hid G.out.only.size
      have G2 := Lib.hid (G.out.step hf ho)
      have hlt := G.out.box.lt
      have NT := Lib.hid nt
      have NP := Lib.hid np
      clear hf hl ho G HO2 nt np
      have G := G2
      clear G2
      have row := G.out.fill.row
      have box := G.out.box
      have one := LST.out.one
      have OV := Lib.hid (G.out.over LST.out (NT.out.mono hws.out) (NP.out.mono hws.out) (fun b h e => by have := NT.out b h; omega) (fun b h e => by have := NP.out b h; omega))
      go_wp2_with (first
        | (refine wpList_load_row rfl 50 _ rfl q rfl 50 _ (0, 0) _ row Try.underlying50 rfl (by kernel_rfl) ?_)
        | (refine wpList_store_row rfl 50 _ _ rfl w.heap.size _ rfl rfl 50 _ box (by kernel_rfl) rfl one ?_))
      exact bodyPost_ret (results_cell_row rfl _ _ w.heap.size 50 _ (0, 0) _ rfl (box.setRow _) Try.underlying50 rfl (by kernel_rfl)) rfl ⟨_, _, rfl, OV.out⟩
end Go.Proofs.Ytpcfhpffbogjmaa
