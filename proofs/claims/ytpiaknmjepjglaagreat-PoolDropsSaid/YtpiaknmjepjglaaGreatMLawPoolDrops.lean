/- careenlaw08.PoolDrops: it returns true for every input, and leaves its arguments as they were: the row's proof, out of the walk.
   Conditions: none beside the row's own (each argument is read as data). -/
import Derived.Test.YtpiaknmjepjglaaGreatJpoE
import Derived.ProofKit
import Derived.OpenShut
import Derived.ShutString
import Derived.ChangeOld
import Derived.Below
import Derived.Lib.SmallJoins
/- careenlaw08.PoolDrops: the walk. -/
namespace Go.Proofs.YtpiaknmjepjglaaGreat
open Go.RowKit

namespace Dr8
variable (a b : Pag)
def Y0 : Y8 := Y8.new 2 8
def Y1 : Y8 := { Y0 with l := [some ⟨0, emptyPg, false, 0⟩, none] }
def Y2 : Y8 := { Y0 with l := [some ⟨0, emptyPg, false, 0⟩, some ⟨1, emptyPg, false, 0⟩] }
def Y3 : Y8 := { Y0 with l := [some ⟨0, a, true, a.1⟩, some ⟨1, emptyPg, false, 0⟩] }
def Y4 : Y8 := { Y0 with l := [some ⟨0, a, true, a.1⟩, some ⟨1, b, true, b.1⟩] }
def Y5 : Y8 := { Y0 with l := [none, some ⟨1, b, true, b.1⟩] }
theorem s1 : Y0.getY 0 2 0 = (Y1, emptyPg, 0) := rfl
theorem s2 : Y1.getY 0 2 1 = (Y2, emptyPg, 0) := rfl
variable {a b}
theorem s3 (ha : a.Right) : Y2.putY 0 a = (Y3 a, 0) := by
  unfold Y8.putY
  rw [show holds Y2.l 0 = some 0 from rfl]
  simp only
  rw [if_pos (show PgOk a.1 a.2 from ha), setPg_some (k := 0) (f := ⟨0, emptyPg, false, 0⟩) rfl]
  rfl
theorem s4 (hb : b.Right) : (Y3 a).putY 1 b = (Y4 a b, 0) := by
  unfold Y8.putY
  rw [show holds (Y3 a).l 1 = some 1 from rfl]
  simp only
  rw [if_pos (show PgOk b.1 b.2 from hb), setPg_some (k := 1) (f := ⟨1, emptyPg, false, 0⟩) rfl]
  rfl
theorem s5 : (Y4 a b).dropY 0 = (Y5 b, 0) := rfl
theorem s6 : (Y5 b).dropY 0 = (Y5 b, 7) := rfl
theorem p0 : (Y5 b).peekY 2 0 = (emptyPg, 0) := rfl
theorem p1 : (Y5 b).peekY 2 1 = (b, 0) := rfl
theorem r1 : (Y5 b).readY 2 1 = (emptyPg, 0) := rfl
theorem h0 : holdsI (Y5 b).l 0 = -1 := rfl
end Dr8
section
variable {w : World} {F : Foot} {A : A8} {Y Y' : Y8}
/-- The calls, at what they are known to come to. -/
theorem getAs (h : Pool8 w F A Y) (i : Int) (ht : Y.t < 4294967295) {p : Pag} {e : Nat} (hg : Y.getY A.base A.n i = (Y', p, e)) : Calls Tryz.prog 15 #[.pointer (some ⟨A.q, 0, none⟩), .int .i64 i] w (Out8 w F A Y' (.tuple #[.agg #[.int .i64 p.1, .string p.2], .int .i64 e])) := by
  have := poGet_any h i ht
  rw [hg] at this
  exact this
theorem putAs (h : Pool8 w F A Y) (i : Int) {x : Pag} {e : Nat} (hg : Y.putY i x = (Y', e)) : Calls Tryz.prog 17 #[.pointer (some ⟨A.q, 0, none⟩), .int .i64 i, .agg #[.int .i64 x.1, .string x.2]] w (Out8 w F A Y' (.int .i64 e)) := by
  have := poPut_any h i x
  rw [hg] at this
  exact this
theorem dropAs (h : Pool8 w F A Y) (i : Int) {e : Nat} (hg : Y.dropY i = (Y', e)) : Calls Tryz.prog 21 #[.pointer (some ⟨A.q, 0, none⟩), .int .i64 i] w (Out8 w F A Y' (.int .i64 e)) := by
  have := poDrop_any h i
  rw [hg] at this
  exact this
theorem peekAs (h : Pool8 w F A Y) (i : Int) (ht : Y.t ≤ 4294967296) {p : Pag} {e : Nat} (hg : Y.peekY A.n i = (p, e)) : Calls Tryz.prog 37 #[.pointer (some ⟨A.q, 0, none⟩), .int .i64 i] w fun x w' => x = .returned (.tuple #[.agg #[.int .i64 p.1, .string p.2], .int .i64 e]) ∧ Below w.heap.size w w' := by
  have := poPeek_any h i ht
  rw [hg] at this
  exact this
theorem readAs (h : Pool8 w F A Y) (i : Int) (ht : Y.t ≤ 4294967296) {p : Pag} {e : Nat} (hg : Y.readY A.n i = (p, e)) : Calls Tryz.prog 33 #[.pointer (some ⟨A.s, 0, none⟩), .int .i64 i] w fun x w' => x = .returned (.tuple #[.agg #[.int .i64 p.1, .string p.2], .int .i64 e]) ∧ Below w.heap.size w w' := by
  have := p8_readAny h i ht
  rw [hg] at this
  exact this
end
set_option maxRecDepth 100000 in
set_option maxHeartbeats 16000000 in
theorem walkPoolDrops (a : Int) (d : ByteArray) (b : Int) (g : ByteArray) (w : World) (_ : (Lit.int .i64 a).wf = true) (hd : d.size ≤ maxLen) (_ : (Lit.int .i64 b).wf = true) (hg : g.size ≤ maxLen) :
    Calls Tryz.prog 7 #[.agg #[.int .i64 a, .string d], .agg #[.int .i64 b, .string g]] w fun e w' => e = .returned (.bool true) ∧ Below w.heap.size w w' := by
  have x0 := (Blk.new w 45 #[.int .i64 a, .string d]).alloc (.cells #[.int .i64 b, .string g] 45)
  have y0 := Blk.new (w.alloc (.cells #[.int .i64 a, .string d] 45)) 45 #[.int .i64 b, .string g]
  have HB0 := Lib.hid (((Below.refl w.heap.size w).alloc (Nat.le_refl _) (.cells #[.int .i64 a, .string d] 45)).alloc (by simp) (.cells #[.int .i64 b, .string g] 45))
  simp only [World.size_alloc] at y0
  have hdm : (d.size : Int) ≤ 9223372036854775807 := by unfold maxLen at hd; omega
  have hgm : (g.size : Int) ≤ 9223372036854775807 := by unfold maxLen at hg; omega
  clear hd hg
  go_enter Tryz.func7, Tryz.ntmps7
  go_upto_region 1 with fail
  change Code.wp _ _ _ _ ((w.alloc (.cells #[.int .i64 a, .string d] 45)).alloc (.cells #[.int .i64 b, .string g] 45))
  generalize (w.alloc (.cells #[.int .i64 a, .string d] 45)).alloc (.cells #[.int .i64 b, .string g] 45) = w1 at *
  go_wp2_with fail
  refine (made_ok 2 2 8 (by omega) (by omega) (by omega) (by omega) (by omega) (by omega)).mono ?_
  rintro e w2 ⟨F, A, rfl, hl, hn, hb⟩
  have L2 := Lib.hid (show Live8 w1 w2 F A Dr8.Y0 from hl)
  have HN := Lib.hid hn
  have HBA := Lib.hid hb
  have x2 := x0.keep hl.below x0.lt
  have y2 := y0.keep hl.below y0.lt
  have HNX : Hid (¬ F w.heap.size ∧ ¬ F (w.heap.size + 1)) := ⟨fun e => by have := hl.newF _ e; have := x0.lt; omega, fun e => by have := hl.newF _ e; have := y0.lt; omega⟩
  clear hl hn hb x0 y0
  go_wp2_with fail
  refine (awake8 _).mono ?_
  rintro e w3 ⟨rfl, hb3⟩
  have L3 := Lib.hid (L2.out.more hb3)
  have x3 := x2.keep hb3 x2.lt
  have y3 := y2.keep hb3 y2.lt
  have HB3 := Lib.hid (below2 HB0.out L3.out.below)
  have c0 := x3.cell 0
  have c1 := x3.cell 1
  have d0 := y3.cell 0
  have d1 := y3.cell 1
  simp at c0 c1 d0 d1
  clear hb3 x2 y2 L2
  by_cases h1 : 500 < d.size
  · have h1' : (500 : Int) < d.size := by omega
    clear h1
    go_wp2_with fail
    refine (awake8 _).mono ?_
    rintro e w4 ⟨rfl, hb4⟩
    have HB4 := Lib.hid (below2 HB3.out hb4)
    clear hb4
    go_wp2
    go_ret
    exact ⟨rfl, HB4.out⟩
  have h1' : ¬ (500 : Int) < d.size := by omega
  by_cases h2 : 500 < g.size
  · have h2' : (500 : Int) < g.size := by omega
    clear h2 h1
    go_wp2_with fail
    refine (awake8 _).mono ?_
    rintro e w4 ⟨rfl, hb4⟩
    have HB4 := Lib.hid (below2 HB3.out hb4)
    clear hb4
    go_wp2
    go_ret
    exact ⟨rfl, HB4.out⟩
  have h2' : ¬ (500 : Int) < g.size := by omega
  by_cases h3 : PgOk a d
  · have RA := Lib.hid (fun W => pgRefRight_any a d W true (by simp [h3]))
    by_cases h4 : PgOk b g
    · have RB := Lib.hid (fun W => pgRefRight_any b g W true (by simp [h4]))
      have HA : Hid (Pag.Right (a, d)) := h3
      have HB : Hid (Pag.Right (b, g)) := h4
      clear h3 h4 h1 h2
      have HBZ := HB0
      clear HB0 HB3
      go_wp2_with fail
      refine (RA.out _).mono ?_
      rintro e w4 ⟨rfl, hb4⟩
      have L4 := Lib.hid (L3.out.more hb4)
      have x4 := x3.keep hb4 x3.lt
      have y4 := y3.keep hb4 y3.lt
      replace d0 := y4.cell 0
      replace d1 := y4.cell 1
      simp at d0 d1
      clear hb4 c0 c1 x3 y3 L3
      go_wp2_with fail
      refine (RB.out _).mono ?_
      rintro e w5 ⟨rfl, hb5⟩
      have L5 := Lib.hid (L4.out.more hb5)
      have x5 := x4.keep hb5 x4.lt
      have y5 := y4.keep hb5 y4.lt
      clear hb5 d0 d1 x4 y4 L4 RA RB
      have CG := Lib.hid (getAs (Y' := Dr8.Y1) L5.out.pool 0 (by show (1 : Nat) < _; omega) (by rw [HN.out, HBA.out]; exact Dr8.s1))
      go_wp2_with fail
      refine CG.out.mono ?_
      rintro e w6 ⟨rfl, F6, hp6, hs6⟩
      have L6 := Lib.hid (L5.out.step hp6 hs6)
      have x6 := (hs6.block _ x5.lt HNX.out.1).trans x5
      have y6 := (hs6.block _ y5.lt HNX.out.2).trans y5
      have HN6 : Hid (¬ F6 w.heap.size ∧ ¬ F6 (w.heap.size + 1)) := ⟨fun e => (hs6.foot _ e).elim HNX.out.1 fun e => by have := x5.lt; omega, fun e => (hs6.foot _ e).elim HNX.out.2 fun e => by have := y5.lt; omega⟩
      clear hp6 hs6 x5 y5 L5 CG HNX
      have CG := Lib.hid (getAs (Y' := Dr8.Y2) L6.out.pool 1 (by show (1 : Nat) < _; omega) (by rw [HN.out, HBA.out]; exact Dr8.s2))
      go_wp2_with fail
      refine CG.out.mono ?_
      rintro e w7 ⟨rfl, F7, hp7, hs7⟩
      have L7 := Lib.hid (L6.out.step hp7 hs7)
      have x7 : Blk w7 w.heap.size 45 #[.int .i64 a, .string d] := (hs7.block _ (Blk.lt x6) HN6.out.1).trans x6
      have y7 : Blk w7 (w.heap.size + 1) 45 #[.int .i64 b, .string g] := (hs7.block _ (Blk.lt y6) HN6.out.2).trans y6
      have HN7 : Hid (¬ F7 w.heap.size ∧ ¬ F7 (w.heap.size + 1)) := ⟨fun e => (hs7.foot _ e).elim HN6.out.1 fun e => by have := Blk.lt x6; omega, fun e => (hs7.foot _ e).elim HN6.out.2 fun e => by have := Blk.lt y6; omega⟩
      clear hp7 hs7 x6 y6 L6 CG HN6
      have CP := putAs (x := (a, d)) L7.out.pool 0 (Dr8.s3 HA.out)
      replace CP := Lib.hid CP
      have e0 := x7.cell 0
      have e1 := x7.cell 1
      simp only [List.getElem?_toArray, List.getElem?_cons_zero, List.getElem?_cons_succ] at e0 e1
      go_wp2_with fail
      refine CP.out.mono ?_
      rintro e w8 ⟨rfl, F8', hp8, hs8⟩
      have L8 := Lib.hid (L7.out.step hp8 hs8)
      have y8 : Blk w8 (w.heap.size + 1) 45 #[.int .i64 b, .string g] := (hs8.block _ y7.lt HN7.out.2).trans y7
      have HN8 : Hid (¬ F8' (w.heap.size + 1)) := fun e => (hs8.foot _ e).elim HN7.out.2 fun e => by have := y7.lt; omega
      clear hp8 hs8 x7 y7 L7 CP HN7 e0 e1
      have CP := putAs (x := (b, g)) L8.out.pool 1 (Dr8.s4 HB.out)
      replace CP := Lib.hid CP
      have e0 := y8.cell 0
      have e1 := y8.cell 1
      simp only [List.getElem?_toArray, List.getElem?_cons_zero, List.getElem?_cons_succ] at e0 e1
      go_wp2_with fail
      refine CP.out.mono ?_
      rintro e w9 ⟨rfl, F9, hp9, hs9⟩
      have L9 := Lib.hid (L8.out.step hp9 hs9)
      have y9 : Blk w9 (w.heap.size + 1) 45 #[.int .i64 b, .string g] := (hs9.block _ y8.lt HN8.out).trans y8
      have HN9 : Hid (¬ F9 (w.heap.size + 1)) := fun e => (hs9.foot _ e).elim HN8.out fun e => by have := y8.lt; omega
      clear hp9 hs9 y8 L8 CP HN8 e0 e1
      have CD := Lib.hid (dropAs L9.out.pool 0 (Dr8.s5 (a := (a, d)) (b := (b, g))))
      go_wp2_with fail
      refine CD.out.mono ?_
      rintro e w10 ⟨rfl, F10, hp10, hs10⟩
      have L10 := Lib.hid (L9.out.step hp10 hs10)
      have y10 : Blk w10 (w.heap.size + 1) 45 #[.int .i64 b, .string g] := (hs10.block _ y9.lt HN9.out).trans y9
      have HN10 : Hid (¬ F10 (w.heap.size + 1)) := fun e => (hs10.foot _ e).elim HN9.out fun e => by have := y9.lt; omega
      clear hp10 hs10 y9 L9 CD HN9
      have CD := Lib.hid (dropAs L10.out.pool 0 (Dr8.s6 (b := (b, g))))
      go_wp2_with fail
      refine CD.out.mono ?_
      rintro e w11 ⟨rfl, F11, hp11, hs11⟩
      have L11 := Lib.hid (L10.out.step hp11 hs11)
      have y11 : Blk w11 (w.heap.size + 1) 45 #[.int .i64 b, .string g] := (hs11.block _ y10.lt HN10.out).trans y10
      clear hp11 hs11 y10 L10 CD HN10
      have CK := Lib.hid (peekAs L11.out.pool 0 (by show (1 : Nat) ≤ _; omega) (p := emptyPg) (e := 0) (by rw [HN.out]; try exact Dr8.p0))
      go_wp2_with fail
      refine CK.out.mono ?_
      rintro e w12 ⟨rfl, hb12⟩
      have B13 := hb12.alloc hb12.size (.cells #[.int .i64 emptyPg.1, .string emptyPg.2] 45)
      have L13 := Lib.hid (L11.out.more B13)
      have y13 := y11.keep B13 y11.lt
      have p13 := Blk.new w12 45 #[.int .i64 emptyPg.1, .string emptyPg.2]
      clear hb12 B13 y11 L11 CK
      go_upto_region 9 with fail
      change Code.wp _ _ _ _ (w12.alloc (.cells #[.int .i64 emptyPg.1, .string emptyPg.2] 45))
      generalize w12.alloc (.cells #[.int .i64 emptyPg.1, .string emptyPg.2] 45) = w13 at *
      generalize w12.heap.size = p at *
      have CK := Lib.hid (peekAs L13.out.pool 1 (by show (1 : Nat) ≤ _; omega) (p := (b, g)) (e := 0) (by rw [HN.out]; try exact Dr8.p1))
      go_wp2_with fail
      refine CK.out.mono ?_
      rintro e w14 ⟨rfl, hb14⟩
      have B15 := hb14.alloc hb14.size (.cells #[.int .i64 b, .string g] 45)
      have L15 := Lib.hid (L13.out.more B15)
      have y15 := y13.keep B15 y13.lt
      have p15 := p13.keep B15 p13.lt
      have q15 := Blk.new w14 45 #[.int .i64 b, .string g]
      clear hb14 B15 y13 p13 L13 CK
      go_upto_region 10 with fail
      change Code.wp _ _ _ _ (w14.alloc (.cells #[.int .i64 b, .string g] 45))
      generalize w14.alloc (.cells #[.int .i64 b, .string g] 45) = w15 at *
      generalize w14.heap.size = q at *
      have CR := Lib.hid (readAs L15.out.pool 1 (by show (1 : Nat) ≤ _; omega) (p := emptyPg) (e := 0) (by rw [HN.out]; try exact Dr8.r1))
      go_wp2_with fail
      refine CR.out.mono ?_
      rintro e w16 ⟨rfl, hb16⟩
      have B17 := hb16.alloc hb16.size (.cells #[.int .i64 emptyPg.1, .string emptyPg.2] 45)
      have L17 := Lib.hid (L15.out.more B17)
      have y17 := y15.keep B17 y15.lt
      have p17 := p15.keep B17 p15.lt
      have q17 := q15.keep B17 q15.lt
      have r17 := Blk.new w16 45 #[.int .i64 emptyPg.1, .string emptyPg.2]
      clear hb16 B17 y15 p15 q15 L15 CR
      go_upto_region 11 with fail
      change Code.wp _ _ _ _ (w16.alloc (.cells #[.int .i64 emptyPg.1, .string emptyPg.2] 45))
      generalize w16.alloc (.cells #[.int .i64 emptyPg.1, .string emptyPg.2] 45) = w17 at *
      generalize w16.heap.size = r at *
      have C : Hid (∀ W, Below w17.heap.size w17 W → Blk W (w.heap.size + 1) 45 #[.int .i64 b, .string g] ∧ Blk W p 45 #[.int .i64 0, .string noughts] ∧ Blk W q 45 #[.int .i64 b, .string g] ∧ Blk W r 45 #[.int .i64 0, .string noughts]) := fun W hW => ⟨y17.keep hW y17.lt, p17.keep hW p17.lt, q17.keep hW q17.lt, r17.keep hW r17.lt⟩
      have HO : Hid (∀ W, Below w17.heap.size w17 W → Calls Tryz.prog 35 #[.pointer (some ⟨A.q, 0, none⟩), .int .i64 0] W fun e w' => e = .returned (.int .i64 (-1)) ∧ W = w') := fun W hW => by
        have := poHolds_any (L17.out.more hW).pool 0
        rw [Dr8.h0] at this
        exact this
      have E0 := Lib.hid (fun W => pgRefEmpty_any W)
      clear y17 p17 q17 r17
      refine' wp_region_conf 31 (.is _ :: .is _ :: .is _ :: .is _ :: .is _ :: .is _ :: .is _ :: .is _ :: .is _ :: .is _ :: .is _ :: .is _ :: .is _ :: .is _ :: .is _ :: .is _ :: .is _ :: .is _ :: .is _ :: .is _ :: .is _ :: .is _ :: .is _ :: .is _ :: .is _ :: .is _ :: .is _ :: .is _ :: .is _ :: .is _ :: .is _ :: []) (by kernel_rfl) (by kernel_rfl) (by kernel_rfl) (by kernel_rfl) rfl ?main
      case main =>
        iterate 31
          apply obs_step
          · rfl
          · intro w18 hE18 hk
            have hb18 := (Below.refl w17.heap.size w17).drew.trans hE18
            obtain ⟨q0, q1, q2, q3⟩ := C.out w18 hb18
            have H18 := HO.out w18 hb18
            clear hk hE18
            go_wp2_with (first
              | (go_at_call 38; refine (E0.out _).mono ?_; rintro e w19 ⟨rfl, hbE⟩)
              | (go_at_call 35; refine H18.mono ?_; rintro e w19 ⟨rfl, rfl⟩)
              | (refine wpList_load_row rfl 45 _ rfl (w.heap.size + 1) rfl 45 _ (0, 0) _ q0 Tryz.underlying45 rfl (by kernel_rfl) ?_)
              | (refine wpList_load_row rfl 45 _ rfl p rfl 45 _ (0, 0) _ q1 Tryz.underlying45 rfl (by kernel_rfl) ?_)
              | (refine wpList_load_row rfl 45 _ rfl q rfl 45 _ (0, 0) _ q2 Tryz.underlying45 rfl (by kernel_rfl) ?_)
              | (refine wpList_load_row rfl 45 _ rfl r rfl 45 _ (0, 0) _ q3 Tryz.underlying45 rfl (by kernel_rfl) ?_)
              | (refine wp_page_same _ _ _ rfl rfl 0 noughts rfl rfl ?_)
              | (refine wp_page_same _ _ _ rfl rfl b g rfl rfl ?_))
            first | refine post_eq ?_ hbE | refine post_eq ?_ (Below.refl _ _)
            simp only [Act.put, List.setIfInBounds_toArray, List.set_cons_zero, List.set_cons_succ]
            try rfl
          · simp only [Act.put, List.setIfInBounds_toArray, List.set_cons_zero, List.set_cons_succ]
            rfl
        refine obs_end fun w18 hE18 _ => ?_
        have HBF := Lib.hid (below2 L17.out.below ((Below.refl w17.heap.size w17).drew.trans hE18))
        clear hE18
        change wpList _ _ _ _ _ _
        go_wp2
        go_ret
        exact ⟨rfl, below2 HBZ.out HBF.out⟩
    · have RB := Lib.hid (fun W => pgRefRight_any b g W false (by simp [h4]))
      clear h3 h4 h1 h2
      go_wp2_with fail
      refine (RA.out _).mono ?_
      rintro e w4 ⟨rfl, hb4⟩
      have y4 := y3.keep hb4 y3.lt
      have HB4 := Lib.hid (below2 HB3.out hb4)
      replace d0 := y4.cell 0
      replace d1 := y4.cell 1
      simp at d0 d1
      clear hb4 c0 c1
      go_wp2_with fail
      refine (RB.out _).mono ?_
      rintro e w5 ⟨rfl, hb5⟩
      have HB5 := Lib.hid (below2 HB4.out hb5)
      clear hb5 d0 d1 y4
      go_wp2_with fail
      refine (awake8 _).mono ?_
      rintro e w6 ⟨rfl, hb6⟩
      have HB6 := Lib.hid (below2 HB5.out hb6)
      clear hb6
      go_wp2
      go_ret
      exact ⟨rfl, HB6.out⟩
  · have RA := Lib.hid (fun W => pgRefRight_any a d W false (by simp [h3]))
    clear h3 h1 h2
    go_wp2_with fail
    refine (RA.out _).mono ?_
    rintro e w4 ⟨rfl, hb4⟩
    have HB4 := Lib.hid (below2 HB3.out hb4)
    clear hb4 c0 c1 d0 d1
    go_wp2_with fail
    refine (awake8 _).mono ?_
    rintro e w5 ⟨rfl, hb5⟩
    have HB5 := Lib.hid (below2 HB4.out hb5)
    clear hb5
    go_wp2
    go_ret
    exact ⟨rfl, HB5.out⟩
end Go.Proofs.YtpiaknmjepjglaaGreat

/- careenlaw08.PoolDrops: it returns true for every input, and leaves its arguments as they were: the row's proof, out of the walk.
   Conditions: none beside the row's own (each argument is read as data). -/
namespace Go.Proofs.YtpiaknmjepjglaaGreat.poolDrops
open Go.ChangeShapes Go.WideShapes Go.ChangeAt Go.RowKit Go.Joins
open Go.ChangeMaps (open_string shut_string)
set_option linter.unusedVariables false

theorem own : ownKnob Tryz.prog.godebug = none := by kernel_rfl
theorem laidOut : laidOutB Tryz.prog = true := by kernel_rfl
theorem cellsPg : Tryz.prog.cellsOf 45 = 2 := by kernel_rfl

set_option maxRecDepth 100000 in
theorem lifted (os : Os) (started : os.Started) (H : Type) (enc : TypeId × Value → H) :
    ReturnsInHanded {} Tryz.checked os 7 .any (Rows.poolDropsSpec.pre6 enc Tryz.prog Tryz.f7 Rows.poolDropsRow.domain false) (Rows.poolDropsSpec.post enc Tryz.prog Tryz.f7 false true false false) := by
  refine returnsInHanded_of_change (C := Tryz.checked) own started (by kernel_rfl) Tryz.func7
    (ChangeSpec.witness6 (enc := enc) (C := Tryz.checked) false ⟨#[], #[.agg #[.int .i64 0, .string ByteArray.empty], .agg #[.int .i64 0, .string ByteArray.empty]], []⟩ 8 (by kernel_rfl) (by kernel_rfl) (by kernel_rfl) (by kernel_rfl)) ?_
  intro W base args ds gs before hval0 hW hcnd _
  have hval : ∀ (j : Nat) t v, Tryz.f7.params[j]? = some t → args[j]? = some v → Value.okWide Tryz.prog W .any base t v := hval0
  have hW' := hW
  obtain ⟨p, q, hA0, hV, rfl, hfz, hnd⟩ := hW
  have hA : DataW.TrodAll enc Tryz.prog W 0 (fun _ => true) true Tryz.f7.params.toList args.toList ds p := hA0
  rw [Tryz.params7] at hA hval
  obtain ⟨v0, vs0, d0, ds0, p0, q0, hargs, rfl, rfl, h0, r0⟩ := trodAll_cons hA
  obtain ⟨v1, vs1, d1, ds1, p1, q1, rfl, rfl, rfl, h1, r1⟩ := trodAll_cons r0
  obtain ⟨rfl, rfl, rfl⟩ := trodAll_nil r1
  obtain rfl : args = #[v0, v1] := by cases args; simp_all
  obtain ⟨rfl, rfl⟩ := trodVars_none hV
  have k0 := h0
  have lt0 : ∀ x ∈ p0, x.block < W.heap.size := by obtain ⟨m, hm⟩ := k0; exact DataW.trod_lt m _ _ _ hm
  have k1 := h1
  have lt1 : ∀ x ∈ p1, x.block < W.heap.size := by obtain ⟨m, hm⟩ := k1; exact DataW.trod_lt m _ _ _ hm
  obtain ⟨c00, c01, y00, y01, m0, rfl, rfl, hp0, hy00, hy01⟩ := open_agg2 Tryz.underlying45 (by kernel_rfl) cellsPg (hval 0 45 v0 rfl rfl) h0
  obtain ⟨a00, e00, rfl, w00⟩ := DataW.trod_int Tryz.underlying3 hy00
  obtain ⟨a01, e01, rfl, w01⟩ := DataW.trod_string Tryz.underlying9 hy01
  simp only [List.cons.injEq, and_true] at e00 e01
  subst e00 e01
  obtain ⟨c10, c11, y10, y11, m1, rfl, rfl, hp1, hy10, hy11⟩ := open_agg2 Tryz.underlying45 (by kernel_rfl) cellsPg (hval 1 45 v1 rfl rfl) h1
  obtain ⟨a10, e10, rfl, w10⟩ := DataW.trod_int Tryz.underlying3 hy10
  obtain ⟨a11, e11, rfl, w11⟩ := DataW.trod_string Tryz.underlying9 hy11
  simp only [List.cons.injEq, and_true] at e10 e11
  subst e10 e11
  clear hA0 hval0
  refine (walkPoolDrops a00 a01 a10 a11 W w00 w01 w10 w11).mono fun e W' ⟨he, bel⟩ => ?_
  subst he
  exact ⟨_, rfl, _, _, _, [], _, [], hW', trodAll_mk1 (shut_bool Tryz.underlying4 _), (trodAll_cons_mk (Below.trod laidOut (by kernel_rfl) (of_decide_eq_true (by kernel_rfl)) k0 bel lt0) (trodAll_cons_mk (Below.trod laidOut (by kernel_rfl) (of_decide_eq_true (by kernel_rfl)) k1 bel lt1) trodAll_mk0)), rfl, bel.frame _, fun h => by cases h⟩

theorem over : Rows.poolDropsRow.holds Tryz.pinned (OpenSpec.ofChange Rows.poolDropsSpec) :=
  OpenClaim.holds_of_wide 7 Tryz.f7 rfl rfl rfl rfl rfl rfl rfl ⟨rfl, rfl, rfl, rfl, rfl⟩ rfl rfl rfl rfl rfl (by kernel_rfl) Tryz.func7 (by kernel_rfl)
    (of_decide_eq_true (by kernel_rfl)) (by unfold Func.isWrapper; first | (rw [if_pos (by decide +kernel)]; kernel_rfl) | (rw [if_neg (by decide +kernel)]; exact ⟨rfl, rfl⟩))
    (fun os started H enc _ => lifted os started H enc)

/-- The given statement. -/
theorem proved : Rows.PoolDropsSaid := over
end Go.Proofs.YtpiaknmjepjglaaGreat.poolDrops
