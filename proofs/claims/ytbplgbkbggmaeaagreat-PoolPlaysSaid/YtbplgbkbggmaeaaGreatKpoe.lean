/- Texts that belong together, joined: Pl9, PoL. -/
import Derived.Test.YtbplgbkbggmaeaaGreatKpoc
import Derived.Test.YtbplgbkbggmaeaaGreatKpod
import Derived.Test.YtbplgbkbggmaeaaGreatKpg
namespace Go.Proofs.YtbplgbkbggmaeaaGreat
open Go.RowKit
structure Y8.Free (Y : Y8) : Prop where
 gone : Y.D.gone = false
 fuse : Y.D.fuse = none
section
variable {base n : Nat} {Y : Y8}
theorem ahead_free (h : Ok8 base n Y) (q : Y.Free) (a : Int) : (Y.aheadY a).2 = 0 ∧ (Y.aheadY a).1.Free ∧ (Y.aheadY a).1.lg = (if Y.lg.safeAt a then Y.lg else { Y.lg with first := Y.lg.end_ }) ∧ (Y.aheadY a).1.P = Y.P ∧ (Y.aheadY a).1.l = Y.l ∧ (Y.aheadY a).1.hand = Y.hand := by
 unfold Y8.aheadY
 by_cases hs : Y.lg.safeAt a
 · rw [if_pos hs, if_pos hs]
   exact ⟨rfl, q, rfl, rfl, rfl, rfl⟩
 · rw [if_neg hs, if_neg hs]
   obtain ⟨σ, hc⟩ := h.calm q.gone
   rcases hc.flush h.lok h.ring h.above with ⟨e1, e2, e3, e4, e5⟩ | ⟨_, _, _, _, _, _, e7⟩
   · exact ⟨e1, ⟨e3.lies.gone, e5 q.fuse⟩, e2, rfl, rfl, rfl⟩
   · exact absurd q.fuse e7
theorem write_free (h : Ok8 base n Y) (q : Y.Free) {i : Nat} {p : Pag} (hi : i < n) (hp : p.Right) : (Y.writeY base i p).2 = 0 ∧ (Y.writeY base i p).1.Free ∧ (Y.writeY base i p).1.P = putP Y.P i p := by
 obtain ⟨σ, hc⟩ := h.calm q.gone
 obtain ⟨D', σ', k1, k2, k3, _⟩ := hc.write h.n8 hi hp (fun m hm => by rw [q.fuse] at hm; cases hm)
 unfold Y8.writeY
 rw [k1]
 exact ⟨rfl, ⟨k2.lies.gone, by show D'.fuse = none; rw [k3, q.fuse]; rfl⟩, by simp⟩
def aheadLg (l : Wl) (a : Int) : Wl := if l.safeAt a then l else { l with first := l.end_ }
theorem save_free (h : Ok8 base n Y) (q : Y.Free) {k : Nat} {f : Fr8} (hk : Y.l[k]? = some (some f)) : (Y.saveY base f).2 = 0 ∧ (Y.saveY base f).1.Free ∧ (Y.saveY base f).1.P = putP Y.P f.no f.pg ∧ (Y.saveY base f).1.lg = aheadLg Y.lg f.pg.1 ∧ (Y.saveY base f).1.l = Y.l ∧ (Y.saveY base f).1.hand = Y.hand := by
 obtain ⟨a1, a2, a3, a4, a5, a6⟩ := ahead_free h q f.pg.1
 obtain ⟨f1, f2⟩ := h.fr k f hk
 obtain ⟨b1, b2, b3⟩ := write_free (h.ahead f.pg.1).1 a2 f1 f2
 unfold Y8.saveY
 rw [if_pos a1]
 exact ⟨b1, b2, by rw [b3, a4], a3, a5, a6⟩
theorem empty_free (h : Ok8 base n Y) (q : Y.Free) {k : Nat} {f : Fr8} (hk : Y.l[k]? = some (some f)) : (Y.emptyY base k f).2 = 0 ∧ (Y.emptyY base k f).1.Free ∧ (Y.emptyY base k f).1.P = (if f.dirty = true then putP Y.P f.no f.pg else Y.P) ∧
   (Y.emptyY base k f).1.lg = (if f.dirty = true then aheadLg Y.lg f.pg.1 else Y.lg) ∧ (Y.emptyY base k f).1.l = Y.l.set k none ∧ (Y.emptyY base k f).1.hand = Y.hand := by
 obtain ⟨a1, a2, a3, a4, a5, a6⟩ := save_free h q hk
 unfold Y8.emptyY
 by_cases hd : f.dirty = true
 · rw [if_pos hd, if_pos hd, if_pos hd, if_pos a1]
   exact ⟨rfl, ⟨a2.gone, a2.fuse⟩, a3, a4, by show (Y.saveY base f).1.l.set k none = _; rw [a5], a6⟩
 · rw [if_neg hd, if_neg hd, if_neg hd]
   exact ⟨rfl, ⟨q.gone, q.fuse⟩, rfl, rfl, rfl, rfl⟩
/-! Pages are what was put last; the log goes ahead. -/
variable {want : Nat → Pag}
end
end Go.Proofs.YtbplgbkbggmaeaaGreat

namespace Go.Proofs.YtbplgbkbggmaeaaGreat
open Go.RowKit
theorem wp_page_same {ops : Array Oper} {rest : List Oper} {o : Oper} {a : Act} {w : World} {Q : Exit → Act → World → Prop} (x y : Operand) (ty : TypeId) (ho : o.op = .binOp .eql 45 x y ty)
   (hw : Region.wanted o (yielded ops a.tmps) = true) (A : Int) (D : ByteArray) (hx : a.eval x = .agg #[.int .i64 A, .string D]) (hy : a.eval y = .agg #[.int .i64 A, .string D])
   (h : wpList Tryz.prog ops Q rest (a.put o.dst (.bool true)) w) : wpList Tryz.prog ops Q (o :: rest) a w :=
 wp_page_eql x y ty ho hw A A D D hx hy (by simpa using h)
namespace Aw8
def x : Pag := (5, noughts)
theorem xr : x.Right := ⟨⟨by decide, by decide⟩, noughts_size⟩
def Y0 : Y8 := Y8.new 1 8
def Y1 : Y8 := { Y0 with l := [some ⟨0, emptyPg, false, 0⟩] }
def Y2 : Y8 := { Y0 with l := [some ⟨0, x, true, 5⟩] }
theorem ok0 : Ok8 0 2 Y0 := Ok8.new (by omega) (by omega) (by omega) (by omega) (by omega) (by omega)
theorem one : Y0.getY 0 2 0 = (Y1, emptyPg, 0) := rfl
theorem ok1 : Ok8 0 2 Y1 := by have := (ok0.get (0 : Int)).1; rw [one] at this; exact this
theorem two : Y1.putY 0 x = (Y2, 0) := by
 unfold Y8.putY
 rw [show holds Y1.l 0 = some 0 from rfl]
 simp only
 rw [if_pos (show PgOk x.1 x.2 from xr), setPg_some (k := 0) (f := ⟨0, emptyPg, false, 0⟩) rfl]
 rfl
theorem ok2 : Ok8 0 2 Y2 := by have := (ok1.put 0 x).1; rw [two] at this; exact this
theorem dirty2 : dirtyL Y2.l = [(0, 5)] := rfl
theorem three : ∃ Y3, Y2.getY 0 2 1 = (Y3, emptyPg, 0) ∧ Ok8 0 2 Y3 ∧ Y3.l = [some ⟨1, emptyPg, false, 0⟩] ∧ Y3.P 0 = x ∧ Y3.D.gone = false ∧ Y3.t ≤ 2 := by
 have hk : Y2.l[Y2.hand]? = some (some ⟨0, x, true, 5⟩) := rfl
 have hg := ok2.get (1 : Int)
 have hP2 : putP Y2.P 0 x 0 = x ∧ putP Y2.P 0 x 1 = emptyPg := ⟨rfl, rfl⟩
 have hl2 : Y2.l = [some ⟨0, x, true, 5⟩] := rfl
 have hh2 : Y2.hand = 0 := rfl
 have ht2 : Y2.t = 1 := rfl
 obtain ⟨a1, a2, a3, a4, a5, a6⟩ := empty_free ok2 ⟨rfl, rfl⟩ hk
 have hr := roomY_full (base := 0) (show free Y2.l = none from rfl) hk
 have hn : holds Y2.l 1 = none := rfl
 rw [if_pos a1] at hr
 rw [if_pos rfl] at a3
 generalize Y2 = Z at *
 rw [hh2] at *
 generalize Z.emptyY 0 0 ⟨0, x, true, 5⟩ = E at *
 rw [hl2] at a5
 have hgone : ¬ E.1.handOn.D.gone = true := by
   show ¬ E.1.D.gone = true
   rw [a2.gone]; simp
 have hP1 : E.1.P 1 = emptyPg := by rw [a3]; exact hP2.2
 have hf : Z.fetchY 0 1 = (E.1.handOn.fillY 0 1, 0) := by
   unfold Y8.fetchY
   rw [hr, if_pos rfl, if_neg hgone]
 have he : Z.getY 0 2 1 = (E.1.handOn.fillY 0 1, emptyPg, 0) := by
   unfold Y8.getY
   rw [if_pos (by decide), hn]
   simp only [show (1 : Int).toNat = 1 from rfl]
   rw [hf, if_pos rfl]
   show (_, E.1.P 1, 0) = _
   rw [hP1]
 refine ⟨_, he, ?_, ?_, ?_, ?_, ?_⟩
 · have := hg.1; rw [he] at this; exact this
 · show (E.1.l.set 0 (some ⟨1, E.1.P 1, false, 0⟩)) = _
   rw [a5, hP1]
   rfl
 · show E.1.P 0 = x
   rw [a3]; exact hP2.1
 · exact a2.gone
 · have := hg.2.2; rw [he, ht2] at this; exact this
end Aw8
set_option maxRecDepth 100000 in
set_option maxHeartbeats 16000000 in
theorem awake8 (w : World) : Calls Tryz.prog 7 #[] w fun e w' => e = .returned (.bool true) ∧ Below w.heap.size w w' := by
 go_enter Tryz.func7, Tryz.ntmps7
 go_wp2_with fail
 refine (made_ok 2 1 8 (by omega) (by omega) (by omega) (by omega) (by omega) (by omega)).mono ?_
 rintro e w1 ⟨F, A, rfl, hl, hn, hb⟩
 have L1 := Lib.hid (show Live8 w w1 F A Aw8.Y0 from hl)
 have HN := Lib.hid hn
 have HBA := Lib.hid hb
 clear hl hn hb
 go_wp2_with fail
 refine (pgRefEmpty_any _).mono ?_
 rintro e w2 ⟨rfl, hb2⟩
 have hfd : ∀ W : World, (Instr.field 45 (.agg #[.int .i64 0, .string noughts]) 1).run Tryz.prog W = .ok (.string noughts) W := fun _ => by kernel_rfl
 have L2 := Lib.hid (L1.out.more (hb2.alloc hb2.size (.cells #[.int .i64 5, .string noughts] 45)))
 have x2 := Blk.new w2 45 #[.int .i64 5, .string noughts]
 have hx2 : Hid (¬ F w2.heap.size) := fun e => by have := L1.out.pool.lt _ e; have := hb2.size; omega
 go_upto_region 3 with fail
 change Code.wp _ _ _ _ (w2.alloc (.cells #[.int .i64 5, .string noughts] 45))
 clear L1 hb2 hfd
 generalize w2.alloc (.cells #[.int .i64 5, .string noughts] 45) = w3 at *
 generalize w2.heap.size = x at *
 have CG : Calls Tryz.prog 11 #[.pointer (some ⟨A.q, 0, none⟩), .int .i64 0] w3 (Out8 w3 F A Aw8.Y1 (.tuple #[.agg #[.int .i64 0, .string noughts], .int .i64 0])) := by
   have CG := poGet_any L2.out.pool 0 (by show (1 : Nat) < _; omega)
   rw [HN.out, HBA.out, Aw8.one] at CG
   exact CG
 replace CG := Lib.hid CG
 go_wp2_with fail
 refine CG.out.mono ?_
 rintro e w4 ⟨rfl, F4, hp4, hs4⟩
 have hx4 : ¬ F4 x := fun e => (hs4.foot x e).elim hx2.out fun e => by have := x2.lt; omega
 have x4 := (hs4.block x x2.lt hx2.out).trans x2
 have L5 := Lib.hid ((L2.out.step hp4 hs4).more ((Below.refl _ _).alloc (Nat.le_refl _) (.cells #[.int .i64 0, .string noughts] 45)))
 have x5 : Blk (w4.alloc (.cells #[.int .i64 0, .string noughts] 45)) x 45 #[.int .i64 5, .string noughts] := Blk.alloc x4 _
 have HX5 := Lib.hid hx4
 clear hp4 hs4 x4 x2 hx2 L2 CG hx4
 go_upto_region 4 with fail
 change Code.wp _ _ _ _ (w4.alloc (.cells #[.int .i64 0, .string noughts] 45))
 generalize w4.alloc (.cells #[.int .i64 0, .string noughts] 45) = w5 at *
 generalize w4.heap.size = y at *
 have CP : Calls Tryz.prog 13 #[.pointer (some ⟨A.q, 0, none⟩), .int .i64 0, .agg #[.int .i64 5, .string noughts]] w5 (Out8 w5 F4 A Aw8.Y2 (.int .i64 0)) := by
   have CP := poPut_any L5.out.pool 0 Aw8.x
   rw [Aw8.two] at CP
   exact CP
 replace CP := Lib.hid CP
 go_wp2_with (refine wpList_load_row rfl 45 _ rfl x rfl 45 _ (0, 0) _ x5 Tryz.underlying45 rfl (by kernel_rfl) ?_)
 refine CP.out.mono ?_
 rintro e w6 ⟨rfl, F6, hp6, hs6⟩
 have HX6 : Hid (¬ F6 x) := fun e => (hs6.foot x e).elim HX5.out fun e => by have := x5.lt; omega
 have x6 : Blk w6 x 45 #[.int .i64 5, .string noughts] := (hs6.block x x5.lt HX5.out).trans x5
 have L6 := Lib.hid (L5.out.step hp6 hs6)
 clear hp6 hs6 x5 L5 CP HX5
 have CD := poDirty_any L6.out.pool
 rw [Aw8.dirty2] at CD
 replace CD := Lib.hid CD
 go_wp2_with fail
 refine CD.out.mono ?_
 rintro e w7 ⟨v7, rfl, hr7, hb7⟩
 obtain ⟨g7, cap7, rfl, _, _⟩ := own_form hr7 (by decide)
 have x7 := x6.keep hb7 x6.lt
 have hg7 := (hr7.lt g7 rfl)
 have c70 := hr7.cellAt 0 (by decide)
 have c71 := hr7.cellAt 1 (by decide)
 change w7.cell? ⟨g7, 0, none⟩ = some (.int .i64 0) at c70
 change w7.cell? ⟨g7, 1, none⟩ = some (.int .i64 5) at c71
 have HG7 : Hid (¬ F6 g7) := fun e => by have := L6.out.pool.lt _ e; omega
 have L7 := Lib.hid (L6.out.more hb7)
 have HL7 := Lib.hid hg7.2
 clear hr7 hb7 hg7 x6 L6 CD
 obtain ⟨Y3, hy1, hy2, hy3, hy4, hy5, hy6⟩ := Aw8.three
 have CG : Calls Tryz.prog 11 #[.pointer (some ⟨A.q, 0, none⟩), .int .i64 1] w7 (Out8 w7 F6 A Y3 (.tuple #[.agg #[.int .i64 0, .string noughts], .int .i64 0])) := by
   have CG := poGet_any L7.out.pool 1 (by show (1 : Nat) < _; omega)
   rw [HN.out, HBA.out, hy1] at CG
   exact CG
 replace CG := Lib.hid CG
 have HY := Lib.hid (And.intro hy3 (And.intro hy4 (And.intro hy5 hy6)))
 clear hy1 hy2 hy3 hy4 hy5 hy6
 go_wp2_with fail
 refine CG.out.mono ?_
 rintro e w8 ⟨rfl, F8', hp8, hs8⟩
 have B9 := (Below.refl w8.heap.size w8).alloc (Nat.le_refl _) (.cells #[.int .i64 0, .string noughts] 45)
 have x8 : Blk w8 x 45 #[.int .i64 5, .string noughts] := (hs8.block x x7.lt HX6.out).trans x7
 have x9 := x8.alloc (.cells #[.int .i64 0, .string noughts] 45)
 have c80 : w8.cell? ⟨g7, 0, none⟩ = some (.int .i64 0) := (World.cell?_of_block (a := ⟨g7, 0, none⟩) (hs8.block g7 HL7.out HG7.out)).trans c70
 have L9 := Lib.hid ((L7.out.step hp8 hs8).more B9)
 have c81 : w8.cell? ⟨g7, 1, none⟩ = some (.int .i64 5) := (World.cell?_of_block (a := ⟨g7, 1, none⟩) (hs8.block g7 HL7.out HG7.out)).trans c71
 have hg8 : g7 < w8.heap.size := Nat.lt_of_lt_of_le HL7.out hs8.size
 have c90 := (B9.cell (p := ⟨g7, 0, none⟩) hg8).trans c80
 have c91 := (B9.cell (p := ⟨g7, 1, none⟩) hg8).trans c81
 have HG9 := Lib.hid (Nat.lt_of_lt_of_le hg8 B9.size)
 clear hp8 hs8 B9 x8 x7 c80 c81 c70 c71 HL7 HG7 L7 CG hg8 HX6
 go_upto_region 7 with fail
 change Code.wp _ _ _ _ (w8.alloc (.cells #[.int .i64 0, .string noughts] 45))
 generalize w8.alloc (.cells #[.int .i64 0, .string noughts] 45) = w9 at *
 generalize w8.heap.size = z at *
 have CR : Calls Tryz.prog 29 #[.pointer (some ⟨A.s, 0, none⟩), .int .i64 0] w9 fun e w' => e = .returned (.tuple #[.agg #[.int .i64 5, .string noughts], .int .i64 0]) ∧ Below w9.heap.size w9 w' := by
   have CR := p8_read L9.out.pool HY.out.2.2.1 (i := 0) (by rw [HN.out]; omega) (by have := HY.out.2.2.2; omega)
   rw [HY.out.2.1] at CR
   exact CR
 replace CR := Lib.hid CR
 go_wp2_with fail
 refine CR.out.mono ?_
 rintro e w10 ⟨rfl, hb10⟩
 have B11 := hb10.alloc hb10.size (.cells #[.int .i64 5, .string noughts] 45)
 have x11 := x9.keep B11 x9.lt
 have y11 := Blk.new w10 45 #[.int .i64 5, .string noughts]
 have L11 := Lib.hid (L9.out.more B11)
 have c110 := (B11.cell (p := ⟨g7, 0, none⟩) HG9.out).trans c90
 have c111 := (B11.cell (p := ⟨g7, 1, none⟩) HG9.out).trans c91
 have HG11 := Lib.hid (Nat.lt_of_lt_of_le HG9.out B11.size)
 clear hb10 B11 x9 c90 c91 HG9 L9 CR
 go_upto_region 8 with fail
 change Code.wp _ _ _ _ (w10.alloc (.cells #[.int .i64 5, .string noughts] 45))
 generalize w10.alloc (.cells #[.int .i64 5, .string noughts] 45) = w11 at *
 generalize w10.heap.size = y11' at *
 have CD : Calls Tryz.prog 24 #[.pointer (some ⟨A.q, 0, none⟩)] w11 fun e w' => (∃ a c, e = .returned (.slice a 0 c)) ∧ Below w11.heap.size w11 w' := by
   refine (poDirty_any L11.out.pool).mono ?_
   rintro e w' ⟨v, rfl, hr, hb⟩
   obtain ⟨a, c, rfl⟩ := own_slice hr
   rw [HY.out.1] at hr ⊢
   exact ⟨⟨a, c, rfl⟩, hb⟩
 replace CD := Lib.hid CD
 have x110 := x11.cell 0
 have x111 := x11.cell 1
 have y110 := y11.cell 0
 have y111 := y11.cell 1
 simp only [List.getElem?_toArray, List.getElem?_cons_zero, List.getElem?_cons_succ] at x110 x111 y110 y111
 go_wp2_with (refine wp_page_same _ _ _ rfl rfl 5 noughts rfl rfl ?_)
 refine CD.out.mono ?_
 rintro e w12 ⟨⟨a12, c12, rfl⟩, hb12⟩
 have x12 := x11.keep hb12 x11.lt
 have L12 := Lib.hid (L11.out.more hb12)
 clear hb12 x11 y11 c110 c111 L11 CD HG11 x110 x111 y110 y111
 have H0 : Calls Tryz.prog 31 #[.pointer (some ⟨A.q, 0, none⟩), .int .i64 0] w12 fun e w' => e = .returned (.int .i64 (-1)) ∧ w12 = w' := by
   have := poHolds_any L12.out.pool 0
   rw [HY.out.1] at this
   exact this
 have H1 : Calls Tryz.prog 31 #[.pointer (some ⟨A.q, 0, none⟩), .int .i64 1] w12 fun e w' => e = .returned (.int .i64 0) ∧ w12 = w' := by
   have := poHolds_any L12.out.pool 1
   rw [HY.out.1] at this
   exact this
 have HP : Calls Tryz.prog 13 #[.pointer (some ⟨A.q, 0, none⟩), .int .i64 0, .agg #[.int .i64 5, .string noughts]] w12 (Out8 w12 F8' A Y3 (.int .i64 7)) := poPut_none L12.out.pool 0 Aw8.x (by rw [HY.out.1]; rfl)
 replace H0 := Lib.hid H0
 replace H1 := Lib.hid H1
 replace HP := Lib.hid HP
 go_wp2_with fail
 refine H0.out.mono ?_
 rintro e w13 ⟨rfl, rfl⟩
 go_wp2_with fail
 refine H1.out.mono ?_
 rintro e w13 ⟨rfl, rfl⟩
 have x120 := x12.cell 0
 have x121 := x12.cell 1
 simp only [List.getElem?_toArray, List.getElem?_cons_zero, List.getElem?_cons_succ] at x120 x121
 go_wp2_with fail
 refine HP.out.mono ?_
 rintro e w13 ⟨rfl, F13, hp13, hs13⟩
 have L13 := Lib.hid (L12.out.step hp13 hs13)
 clear hp13 hs13 x12 L12 H0 H1 HP
 go_wp2
 go_ret
 exact ⟨rfl, L13.out.below⟩
end Go.Proofs.YtbplgbkbggmaeaaGreat
