/- Texts that belong together, joined: RpM. -/
import Derived.Test.YtbplgbkbggmaeaaGreatKrpk
import Derived.Test.YtbplgbkbggmaeaaGreatKpo
import Derived.Test.YtbplgbkbggmaeaaGreatKpoc
namespace Go.Proofs.YtbplgbkbggmaeaaGreat
open Go.RowKit
section
variable {w : World} {F : Foot} {A : A9} {Y : Y8}
theorem p9_flush (h : Pool9 w F A Y) (a : Int) (hs : ¬ Y.lg.safeAt a) : Calls Tryz.prog 73 #[.pointer (some ⟨A.g, 0, none⟩)] w (Out9 w F A (Y.aheadY a).1 (.int .i64 (Y.aheadY a).2)) := by
 obtain ⟨FD, FL, h, rfl⟩ := h
 have hok := (h.ok.ahead a).1
 have e : Y.aheadY a = ({ Y with D := (Y.lg.flush Y.D).1, lg := (Y.lg.flush Y.D).2.1 }, (Y.lg.flush Y.D).2.2) := if_neg hs
 rw [e] at hok ⊢
 refine (rlFlush_any h.sys h.ok.ep (by have := h.ok.waits; omega)).mono ?_
 rintro e w' ⟨rfl, FD', FL', hd, st⟩
 obtain ⟨k1, k2⟩ := h.onLog hd st hok
 exact ⟨rfl, _, ⟨FD', FL', k1, rfl⟩, k2⟩
theorem p9_write (h : Pool9 w F A Y) {i : Nat} {p : Pag} (hi : i < A.n) (hp : p.Right) (ht : Y.t < 4294967296) : Calls Tryz.prog 74 #[.pointer (some ⟨A.s, 0, none⟩), .int .i64 i, .agg #[.int .i64 p.1, .string p.2]] w (Out9 w F A (Y.writeY A.base i p).1 (.int .i64 (Y.writeY A.base i p).2)) := by
 obtain ⟨FD, FL, h, rfl⟩ := h
 have hok := (h.ok.write hi hp).1
 refine (rpWrite_ok h.sto hi hp ht h.ok.room (by have := h.ok.waits; omega)).mono ?_
 rintro e w' ⟨rfl, FD', hs, st⟩
 obtain ⟨k1, k2⟩ := h.onSto (P := (Y.writeY A.base i p).1.P) hs st hok
 exact ⟨rfl, _, ⟨FD', FL, k1, rfl⟩, k2⟩
theorem Pool9.putFrame (h : Pool9 w F A Y) {k : Nat} (hk : k < Y.l.length) (x : Option Fr8) (hok : Ok8 A.base A.n { Y with l := Y.l.set k x }) : Pool9 (World.put5 w A.gf k (frqCells x)) F A { Y with l := Y.l.set k x } ∧ Step F F w (World.put5 w A.gf k (frqCells x)) :=
 h.onPool (hand := Y.hand) (h.isQ.put5 hk x) (put5_step w k _ (.inr rfl)) hok
theorem Pool9.log_first (h : Pool9 w F A Y) : w.cell? ⟨A.g, 4, none⟩ = some (.int .i64 Y.lg.first) := by
 obtain ⟨FD, FL, h, rfl⟩ := h
 obtain ⟨_, vb, r⟩ := h.log
 exact r.cells.2.2.2.2.1
set_option maxRecDepth 100000 in
set_option maxHeartbeats 16000000 in
theorem rqEmpty_dirty (h : Pool9 w F A Y) {k : Nat} {no : Nat} {a : Int} {d : ByteArray} {since : Int} (hk : Y.l[k]? = some (some ⟨no, (a, d), true, since⟩)) (ht : Y.t < 4294967296) :
   Calls Tryz.prog 45 #[.pointer (some ⟨A.q, 0, none⟩), .int .i64 k] w (Out9 w F A (Y.emptyY A.base k ⟨no, (a, d), true, since⟩).1 (.int .i64 (Y.emptyY A.base k ⟨no, (a, d), true, since⟩).2)) := by
 obtain ⟨c0, c1, c2, c3⟩ := h.isQ.cells
 obtain ⟨d0, d1, d2, d3, d4⟩ := h.isQ.rowS hk
 have hlt := (List.getElem?_eq_some_iff.1 hk).1
 have hk1 : (k : Int) < Y.l.length := by omega
 have hk0 : (0 : Int) ≤ (k : Int) := by omega
 have hl8 : (Y.l.length : Int) ≤ 8 := by have := h.ok.len8; omega
 have hfr : no < A.n ∧ Pag.Right (a, d) := h.ok.fr k _ hk
 have HAH := Lib.hid (h.ok.ahead a)
 have HFR := Lib.hid hfr
 have HT := Lib.hid ht
 have H := Lib.hid h
 have HLT := Lib.hid hlt
 have HLF := Lib.hid h.lt
 have HK := Lib.hid hk
 have HEM := Lib.hid (h.ok.empty hk)
 have X0 := Lib.hid (Blk.new w 74 #[.int .i64 no, .int .i64 a, .string d, .bool true, .int .i64 since])
 have HB := Lib.hid ((Below.refl w.heap.size w).alloc (Nat.le_refl _) (.cells #[.int .i64 no, .int .i64 a, .string d, .bool true, .int .i64 since] 74))
 clear h hk ht hfr hlt
 go_enter Tryz.func45, Tryz.ntmps45
 go_upto_region 2 with fail
 change Code.wp _ _ _ _ (w.alloc (.cells #[.int .i64 no, .int .i64 a, .string d, .bool true, .int .i64 since] 74))
 have P1 := Lib.hid (H.out.more HB.out)
 have ST1 : Hid (Step F F w (w.alloc (.cells #[.int .i64 no, .int .i64 a, .string d, .bool true, .int .i64 since] 74))) := Step.ofBelow HB.out
 clear c0 c1 c2 c3 d0 d1 d2 d3 d4 HB H
 generalize w.alloc (.cells #[.int .i64 no, .int .i64 a, .string d, .bool true, .int .i64 since] 74) = w1 at *
 have HXF : Hid (¬ F w.heap.size) := fun e => by have := HLF.out _ e; omega
 clear HLF
 generalize w.heap.size = xb at *
 have b3 : w1.cell? ⟨xb, 3, none⟩ = some (.bool true) := X0.out.cell 3
 have ha0 : 0 ≤ a := HFR.out.2.1.1
 have ha1 : a ≤ 2147483647 := HFR.out.2.1.2
 have b1 : w1.cell? ⟨xb, 1, none⟩ = some (.int .i64 a) := X0.out.cell 1
 have C0 : Hid (∀ W, Below w1.heap.size w1 W → W.cell? ⟨A.q, 1, none⟩ = some (.pointer (some ⟨A.g, 0, none⟩)) ∧ W.cell? ⟨A.g, 4, none⟩ = some (.int .i64 Y.lg.first) ∧ W.cell? ⟨xb, 1, none⟩ = some (.int .i64 a)) := fun W hW =>
   have r := P1.out.more hW
   ⟨r.isQ.cells.2.1, r.log_first, (X0.out.keep hW X0.out.lt).cell 1⟩
 have HB1 := Lib.hid (Below.refl w1.heap.size w1)
 clear b1
 by_cases hs : Y.lg.safeAt a
 · obtain ⟨qa, hqa, hs2⟩ : ∃ q : Nat, a / 128 = (q : Int) ∧ decide (Y.lg.first ≤ q) = false := ⟨a.toNat / 128, by omega, by unfold Wl.safeAt at hs; simp; omega⟩
   have hah : Y.aheadY a = (Y, 0) := if_pos hs
   have HSV : Hid (Y.saveY A.base ⟨no, (a, d), true, since⟩ = Y.writeY A.base no (a, d)) := by show _ = _; unfold Y8.saveY; rw [hah]; rfl
   have HT1 := HT
   clear hah hs
   go_upto_region 3 with fail
   refine' wp_region_conf 12 (.is _ :: .is _ :: .is _ :: .is _ :: .is _ :: .is _ :: .is _ :: .is _ :: .is _ :: .is _ :: .is _ :: .is _ :: []) (by kernel_rfl) (by kernel_rfl) (by kernel_rfl) (by kernel_rfl) rfl ?main
   case main =>
   iterate 12
     apply obs_step
     · rfl
     · intro w4 hE4 hk4
       have hb4 := below2 HB1.out ((Below.refl w1.heap.size w1).drew.trans hE4)
       obtain ⟨d0, d1, d2⟩ := C0.out w4 hb4
       clear hk4 hE4
       go_wp2_with (fail)
       first
       | (refine post_eq ?_ (Below.refl _ _)
          simp only [Act.put, sA, sB, sC]
          try rfl
          done)
       | (refine post_eq ?_ (drewN_below _ _)
          simp only [Act.put, sA, sB, sC]
          try rfl
          done)
       | (refine post_eq ?_ hb5
          simp only [Act.put, sA, sB, sC]
          try rfl
          done)
     · simp only [Act.put, sA, sB, sC]
       rfl
   refine obs_end fun w5 hE9 _ => ?_
   have hb9 : Below w1.heap.size w1 w5 := (Below.refl w1.heap.size w1).drew.trans hE9
   clear hE9
   have HB5 := Lib.hid hb9
   have P5 := Lib.hid (P1.out.more hb9)
   have ST5 := Lib.hid (ST1.out.trans (Step.ofBelow hb9))
   have X5 := Lib.hid (X0.out.keep hb9 X0.out.lt)
   clear hb9 HB1 C0 P1 ST1 X0
   change wpList _ _ _ _ _ _
   go_upto_region 7 with fail
   obtain ⟨c0, _, _, _⟩ := P5.out.isQ.cells
   have HB2 := Lib.hid (Below.refl w5.heap.size w5)
   have C : Hid (∀ W, Below w5.heap.size w5 W → W.cell? ⟨A.q, 0, none⟩ = some (.pointer (some ⟨A.s, 0, none⟩)) ∧ W.cell? ⟨xb, 0, none⟩ = some (.int .i64 no) ∧ W.cell? ⟨xb, 1, none⟩ = some (.int .i64 a) ∧ W.cell? ⟨xb, 2, none⟩ = some (.string d)) := fun W hW =>
     have r := (P5.out.more hW).isQ.cells
     have x := X5.out.keep hW X5.out.lt
     ⟨r.1, x.cell 0, x.cell 1, x.cell 2⟩
   clear c0
   refine' wp_region_conf 8 (.is _ :: .is _ :: .is _ :: .is _ :: .is _ :: .is _ :: .is _ :: .is _ :: []) (by kernel_rfl) (by kernel_rfl) (by kernel_rfl) (by kernel_rfl) rfl ?main
   case main =>
   iterate 8
     apply obs_step
     · rfl
     · intro w4 hE4 hk4
       have hb4 := below2 HB2.out ((Below.refl w5.heap.size w5).drew.trans hE4)
       obtain ⟨d0, d1, d2, d3⟩ := C.out w4 hb4
       clear hk4 hE4
       go_wp2_with (fail)
       first
       | (refine post_eq ?_ (Below.refl _ _)
          simp only [Act.put, sA, sB, sC]
          try rfl
          done)
       | (refine post_eq ?_ (drewN_below _ _)
          simp only [Act.put, sA, sB, sC]
          try rfl
          done)
       | (refine post_eq ?_ hb5
          simp only [Act.put, sA, sB, sC]
          try rfl
          done)
     · simp only [Act.put, sA, sB, sC]
       rfl
   refine obs_end fun w7 hE9 _ => ?_
   have hb9 : Below w5.heap.size w5 w7 := (Below.refl w5.heap.size w5).drew.trans hE9
   clear hE9
   have HB7 := Lib.hid hb9
   clear hb9 HB2 C
   change wpList _ _ _ _ _ _
   have WR := Lib.hid (p9_write (P5.out.more HB7.out) HFR.out.1 HFR.out.2 HT1.out)
   have ST7 := Lib.hid (ST5.out.trans (Step.ofBelow HB7.out))
   clear P5 ST5 HB7 X5
   go_wp2_with fail
   refine WR.out.mono ?_
   have HL2 : Hid ((Y.writeY A.base no (a, d)).1.l = Y.l) := (show _ = Y.l from rfl).trans rfl
   clear WR
   generalize hZ : Y.writeY A.base no (a, d) = Z at *
   obtain ⟨Y2, er⟩ := Z
   simp only at HL2 ⊢
   rintro e w8 ⟨rfl, F8, hp8, hs8⟩
   have P8 := Lib.hid hp8
   have ST8 := Lib.hid (ST7.out.trans hs8)
   clear hp8 hs8 ST7 hZ
   by_cases h0 : er = 0
   · subst h0
     have hfin : Y.emptyY A.base k ⟨no, (a, d), true, since⟩ = (Y2.releaseY k, 0) := by unfold Y8.emptyY; rw [if_pos rfl, HSV.out]; rfl
     have HFIN := Lib.hid hfin
     obtain ⟨c0, c1, c2, c3⟩ := P8.out.isQ.cells
     have hk2 : Y2.l[k]? = some (some ⟨no, (a, d), true, since⟩) := by rw [HL2.out]; exact HK.out
     obtain ⟨d0, d1, d2, d3, d4⟩ := P8.out.isQ.rowS hk2
     have hln : (k : Int) < Y2.l.length := by rw [HL2.out]; exact hk1
     have hl82 : (Y2.l.length : Int) ≤ 8 := by rw [HL2.out]; exact hl8
     have fz : ∀ i, w8.frozen? ⟨A.gf, i, none⟩ = false := fun i => P8.out.isQ.rows.frozenAt i
     obtain ⟨k1, k2⟩ := P8.out.putFrame (k := k) (by rw [HL2.out]; exact HLT.out) none (by have := HEM.out.1; rw [hfin] at this; exact this)
     have K1 := Lib.hid k1
     have K2 := Lib.hid (ST8.out.trans k2)
     clear k1 k2 hfin HEM HFR HT HT1 P8 ST8 hk2 HSV
     go_wp2
     go_ret
     rw [HFIN.out]
     exact ⟨rfl, F8, K1.out, K2.out⟩
   · have hne : (((er : Nat) : Int) != 0) = true := by simp; omega
     have hfin : Y.emptyY A.base k ⟨no, (a, d), true, since⟩ = (Y2, er) := by unfold Y8.emptyY; rw [if_pos rfl, HSV.out]; exact if_neg h0
     have HFIN := Lib.hid hfin
     clear hfin h0
     go_wp2
     go_ret
     rw [HFIN.out]
     exact ⟨rfl, F8, P8.out, ST8.out⟩
 · obtain ⟨qa, hqa, hs2⟩ : ∃ q : Nat, a / 128 = (q : Int) ∧ decide (Y.lg.first ≤ q) = true := ⟨a.toNat / 128, by omega, by unfold Wl.safeAt at hs; simp; omega⟩
   have HS := Lib.hid hs
   clear hs
   go_upto_region 3 with fail
   refine' wp_region_conf 12 (.is _ :: .is _ :: .is _ :: .is _ :: .is _ :: .is _ :: .is _ :: .is _ :: .is _ :: .is _ :: .is _ :: .is _ :: []) (by kernel_rfl) (by kernel_rfl) (by kernel_rfl) (by kernel_rfl) rfl ?main
   case main =>
   iterate 12
     apply obs_step
     · rfl
     · intro w4 hE4 hk4
       have hb4 := below2 HB1.out ((Below.refl w1.heap.size w1).drew.trans hE4)
       obtain ⟨d0, d1, d2⟩ := C0.out w4 hb4
       clear hk4 hE4
       go_wp2_with (fail)
       first
       | (refine post_eq ?_ (Below.refl _ _)
          simp only [Act.put, sA, sB, sC]
          try rfl
          done)
       | (refine post_eq ?_ (drewN_below _ _)
          simp only [Act.put, sA, sB, sC]
          try rfl
          done)
       | (refine post_eq ?_ hb5
          simp only [Act.put, sA, sB, sC]
          try rfl
          done)
     · simp only [Act.put, sA, sB, sC]
       rfl
   refine obs_end fun w5 hE9 _ => ?_
   have hb9 : Below w1.heap.size w1 w5 := (Below.refl w1.heap.size w1).drew.trans hE9
   clear hE9
   have HB5 := Lib.hid hb9
   have P5 := Lib.hid (P1.out.more hb9)
   have ST5 := Lib.hid (ST1.out.trans (Step.ofBelow hb9))
   have X5 := Lib.hid (X0.out.keep hb9 X0.out.lt)
   clear hb9 HB1 C0 P1 ST1 X0
   change wpList _ _ _ _ _ _
   obtain ⟨c0, c1, _, _⟩ := P5.out.isQ.cells
   have FLU := Lib.hid (p9_flush P5.out a HS.out)
   clear c0
   go_wp2_with fail
   refine FLU.out.mono ?_
   clear FLU hs2 hqa c1
   generalize hA : Y.aheadY a = Z1 at *
   obtain ⟨Y1, er1⟩ := Z1
   have hah := HAH.out
   have HL1 : Hid (Y1.l = Y.l) := hah.2.2.1
   have HT1 : Hid (Y1.t < 4294967296) := by show _ < _; rw [show Y1.t = Y.t from hah.2.2.2.2.1]; exact HT.out
   simp only
   rintro e w6 ⟨rfl, F6, hp6, hs6⟩
   have P6 := Lib.hid hp6
   have ST6 := Lib.hid (ST5.out.trans hs6)
   have X6 : Hid (Blk w6 xb 74 #[.int .i64 no, .int .i64 a, .string d, .bool true, .int .i64 since]) := (hs6.block xb X5.out.lt HXF.out).trans X5.out
   clear hp6 hs6 P5 ST5 X5 HAH hah HB5
   by_cases h1 : er1 = 0
   · subst h1
     have HSV : Hid (Y.saveY A.base ⟨no, (a, d), true, since⟩ = Y1.writeY A.base no (a, d)) := by show _ = _; unfold Y8.saveY; simp only; rw [hA]; rfl
     clear hA HXF
     go_upto_region 7 with fail
     obtain ⟨c0, _, _, _⟩ := P6.out.isQ.cells
     have HB2 := Lib.hid (Below.refl w6.heap.size w6)
     have C : Hid (∀ W, Below w6.heap.size w6 W → W.cell? ⟨A.q, 0, none⟩ = some (.pointer (some ⟨A.s, 0, none⟩)) ∧ W.cell? ⟨xb, 0, none⟩ = some (.int .i64 no) ∧ W.cell? ⟨xb, 1, none⟩ = some (.int .i64 a) ∧ W.cell? ⟨xb, 2, none⟩ = some (.string d)) := fun W hW =>
       have r := (P6.out.more hW).isQ.cells
       have x := X6.out.keep hW X6.out.lt
       ⟨r.1, x.cell 0, x.cell 1, x.cell 2⟩
     clear c0
     refine' wp_region_conf 8 (.is _ :: .is _ :: .is _ :: .is _ :: .is _ :: .is _ :: .is _ :: .is _ :: []) (by kernel_rfl) (by kernel_rfl) (by kernel_rfl) (by kernel_rfl) rfl ?main
     case main =>
     iterate 8
       apply obs_step
       · rfl
       · intro w4 hE4 hk4
         have hb4 := below2 HB2.out ((Below.refl w6.heap.size w6).drew.trans hE4)
         obtain ⟨d0, d1, d2, d3⟩ := C.out w4 hb4
         clear hk4 hE4
         go_wp2_with (fail)
         first
         | (refine post_eq ?_ (Below.refl _ _)
            simp only [Act.put, sA, sB, sC]
            try rfl
            done)
         | (refine post_eq ?_ (drewN_below _ _)
            simp only [Act.put, sA, sB, sC]
            try rfl
            done)
         | (refine post_eq ?_ hb5
            simp only [Act.put, sA, sB, sC]
            try rfl
            done)
       · simp only [Act.put, sA, sB, sC]
         rfl
     refine obs_end fun w7 hE9 _ => ?_
     have hb9 : Below w6.heap.size w6 w7 := (Below.refl w6.heap.size w6).drew.trans hE9
     clear hE9
     have HB7 := Lib.hid hb9
     clear hb9 HB2 C
     change wpList _ _ _ _ _ _
     have WR := Lib.hid (p9_write (P6.out.more HB7.out) HFR.out.1 HFR.out.2 HT1.out)
     have ST7 := Lib.hid (ST6.out.trans (Step.ofBelow HB7.out))
     clear P6 ST6 HB7 X6
     go_wp2_with fail
     refine WR.out.mono ?_
     have HL2 : Hid ((Y1.writeY A.base no (a, d)).1.l = Y.l) := (show _ = Y1.l from rfl).trans HL1.out
     clear WR
     generalize hZ : Y1.writeY A.base no (a, d) = Z at *
     obtain ⟨Y2, er⟩ := Z
     simp only at HL2 ⊢
     rintro e w8 ⟨rfl, F8, hp8, hs8⟩
     have P8 := Lib.hid hp8
     have ST8 := Lib.hid (ST7.out.trans hs8)
     clear hp8 hs8 ST7 hZ
     by_cases h0 : er = 0
     · subst h0
       have hfin : Y.emptyY A.base k ⟨no, (a, d), true, since⟩ = (Y2.releaseY k, 0) := by unfold Y8.emptyY; rw [if_pos rfl, HSV.out]; rfl
       have HFIN := Lib.hid hfin
       obtain ⟨c0, c1, c2, c3⟩ := P8.out.isQ.cells
       have hk2 : Y2.l[k]? = some (some ⟨no, (a, d), true, since⟩) := by rw [HL2.out]; exact HK.out
       obtain ⟨d0, d1, d2, d3, d4⟩ := P8.out.isQ.rowS hk2
       have hln : (k : Int) < Y2.l.length := by rw [HL2.out]; exact hk1
       have hl82 : (Y2.l.length : Int) ≤ 8 := by rw [HL2.out]; exact hl8
       have fz : ∀ i, w8.frozen? ⟨A.gf, i, none⟩ = false := fun i => P8.out.isQ.rows.frozenAt i
       obtain ⟨k1, k2⟩ := P8.out.putFrame (k := k) (by rw [HL2.out]; exact HLT.out) none (by have := HEM.out.1; rw [hfin] at this; exact this)
       have K1 := Lib.hid k1
       have K2 := Lib.hid (ST8.out.trans k2)
       clear k1 k2 hfin HEM HFR HT HT1 P8 ST8 hk2 HSV
       go_wp2
       go_ret
       rw [HFIN.out]
       exact ⟨rfl, F8, K1.out, K2.out⟩
     · have hne : (((er : Nat) : Int) != 0) = true := by simp; omega
       have hfin : Y.emptyY A.base k ⟨no, (a, d), true, since⟩ = (Y2, er) := by unfold Y8.emptyY; rw [if_pos rfl, HSV.out]; exact if_neg h0
       have HFIN := Lib.hid hfin
       clear hfin h0
       go_wp2
       go_ret
       rw [HFIN.out]
       exact ⟨rfl, F8, P8.out, ST8.out⟩
   · have hne : (((er1 : Nat) : Int) != 0) = true := by simp; omega
     have hsv : Y.saveY A.base ⟨no, (a, d), true, since⟩ = (Y1, er1) := by unfold Y8.saveY; simp only; rw [hA]; exact if_neg h1
     have hfin : Y.emptyY A.base k ⟨no, (a, d), true, since⟩ = (Y1, er1) := by unfold Y8.emptyY; rw [if_pos rfl, hsv]; exact if_neg h1
     have HFIN := Lib.hid hfin
     clear hfin hsv hA h1
     go_wp2
     go_ret
     rw [HFIN.out]
     exact ⟨rfl, F6, P6.out, ST6.out⟩
set_option maxRecDepth 100000 in
set_option maxHeartbeats 16000000 in
theorem rqEmpty_clean (h : Pool9 w F A Y) {k : Nat} {no : Nat} {a : Int} {d : ByteArray} {since : Int} (hk : Y.l[k]? = some (some ⟨no, (a, d), false, since⟩)) (ht : Y.t < 4294967296) :
   Calls Tryz.prog 45 #[.pointer (some ⟨A.q, 0, none⟩), .int .i64 k] w (Out9 w F A (Y.emptyY A.base k ⟨no, (a, d), false, since⟩).1 (.int .i64 (Y.emptyY A.base k ⟨no, (a, d), false, since⟩).2)) := by
 obtain ⟨c0, c1, c2, c3⟩ := h.isQ.cells
 obtain ⟨d0, d1, d2, d3, d4⟩ := h.isQ.rowS hk
 have hlt := (List.getElem?_eq_some_iff.1 hk).1
 have hk1 : (k : Int) < Y.l.length := by omega
 have hk0 : (0 : Int) ≤ (k : Int) := by omega
 have hl8 : (Y.l.length : Int) ≤ 8 := by have := h.ok.len8; omega
 have hfr : no < A.n ∧ Pag.Right (a, d) := h.ok.fr k _ hk
 have HAH := Lib.hid (h.ok.ahead a)
 have HFR := Lib.hid hfr
 have HT := Lib.hid ht
 have H := Lib.hid h
 have HLT := Lib.hid hlt
 have HLF := Lib.hid h.lt
 have HK := Lib.hid hk
 have HEM := Lib.hid (h.ok.empty hk)
 have X0 := Lib.hid (Blk.new w 74 #[.int .i64 no, .int .i64 a, .string d, .bool false, .int .i64 since])
 have HB := Lib.hid ((Below.refl w.heap.size w).alloc (Nat.le_refl _) (.cells #[.int .i64 no, .int .i64 a, .string d, .bool false, .int .i64 since] 74))
 clear h hk ht hfr hlt
 go_enter Tryz.func45, Tryz.ntmps45
 go_upto_region 2 with fail
 change Code.wp _ _ _ _ (w.alloc (.cells #[.int .i64 no, .int .i64 a, .string d, .bool false, .int .i64 since] 74))
 have P1 := Lib.hid (H.out.more HB.out)
 have ST1 : Hid (Step F F w (w.alloc (.cells #[.int .i64 no, .int .i64 a, .string d, .bool false, .int .i64 since] 74))) := Step.ofBelow HB.out
 clear c0 c1 c2 c3 d0 d1 d2 d3 d4 HB H
 generalize w.alloc (.cells #[.int .i64 no, .int .i64 a, .string d, .bool false, .int .i64 since] 74) = w1 at *
 have HXF : Hid (¬ F w.heap.size) := fun e => by have := HLF.out _ e; omega
 clear HLF
 generalize w.heap.size = xb at *
 have b3 : w1.cell? ⟨xb, 3, none⟩ = some (.bool false) := X0.out.cell 3
 obtain ⟨c0, c1, c2, c3⟩ := P1.out.isQ.cells
 obtain ⟨d0, d1, d2, d3, d4⟩ := P1.out.isQ.rowS HK.out
 have fz : ∀ i, w1.frozen? ⟨A.gf, i, none⟩ = false := fun i => P1.out.isQ.rows.frozenAt i
 have hfin : Y.emptyY A.base k ⟨no, (a, d), false, since⟩ = (Y.releaseY k, 0) := by unfold Y8.emptyY; rw [if_neg (by simp)]
 have HFIN := Lib.hid hfin
 obtain ⟨k1, k2⟩ := P1.out.putFrame HLT.out none (by have := HEM.out.1; rw [hfin] at this; exact this)
 have K1 := Lib.hid k1
 have K2 := Lib.hid (ST1.out.trans k2)
 clear k1 k2 hfin HEM HFR HT P1 ST1
 go_wp2
 go_ret
 rw [HFIN.out]
 exact ⟨rfl, F, K1.out, K2.out⟩
theorem rqEmpty_any (h : Pool9 w F A Y) {k : Nat} {f : Fr8} (hk : Y.l[k]? = some (some f)) (ht : Y.t < 4294967296) :
   Calls Tryz.prog 45 #[.pointer (some ⟨A.q, 0, none⟩), .int .i64 k] w (Out9 w F A (Y.emptyY A.base k f).1 (.int .i64 (Y.emptyY A.base k f).2)) := by
 obtain ⟨no, ⟨a, d⟩, dirty, since⟩ := f
 cases dirty with
 | true => exact rqEmpty_dirty h hk ht
 | false => exact rqEmpty_clean h hk ht
end
end Go.Proofs.YtbplgbkbggmaeaaGreat
