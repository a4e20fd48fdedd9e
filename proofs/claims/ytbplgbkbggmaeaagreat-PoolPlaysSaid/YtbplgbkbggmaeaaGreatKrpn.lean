/- Texts that belong together, joined: RpN, RpO. -/
import Derived.Test.YtbplgbkbggmaeaaGreatKrpm
import Derived.Test.YtbplgbkbggmaeaaGreatKpoc
namespace Go.Proofs.YtbplgbkbggmaeaaGreat
open Go.RowKit
theorem set_at (p l : List Value) (i : Nat) (v : Value) : (p ++ l).set (p.length + i) v = p ++ l.set i v := by
 rw [List.set_append_right _ _ (by omega)]
 congr 2
 omega
theorem frqV_set1 : ∀ (l : Frs) (k : Nat) (x x' : Option Fr8) (_ : l[k]? = some x) (i : Nat) (_ : i < 5) (v : Value) (_ : frqCells x' = (frqCells x).set i v), (frqV l).set (k * 5 + i) v = frqV (l.set k x')
 | [], k, _, _, h, _, _, _, _ => by simp at h
 | y :: l, 0, x, x', h, i, hi, v, e => by
   simp at h
   subst h
   show (frqCells y ++ frqV l).set (0 * 5 + i) v = frqCells x' ++ frqV l
   rw [List.set_append_left _ _ (by rw [frqCells_len]; omega), e]
   congr 2
   omega
 | y :: l, k + 1, x, x', h, i, hi, v, e => by
   show (frqCells y ++ frqV l).set ((k + 1) * 5 + i) v = frqCells y ++ frqV (l.set k x')
   rw [show (k + 1) * 5 + i = (frqCells y).length + (k * 5 + i) by rw [frqCells_len]; omega, set_at, frqV_set1 l k x x' (by simpa using h) i hi v e]
theorem IsQ.put1 {w : World} {A : A9} {l : Frs} {hand : Nat} (h : IsQ w A l hand) {k : Nat} {x : Option Fr8} (hk : l[k]? = some x) (i : Nat) (hi : i < 5) (v : Value) (x' : Option Fr8) (e : frqCells x' = (frqCells x).set i v) :
   IsQ (w.setCell ⟨A.gf, k * 5 + i, none⟩ v) A (l.set k x') hand := by
 refine ⟨?_, ?_⟩
 · have := h.head
   rw [show (l.set k x').length = l.length by simp]
   exact (heap_setCell_other _ _ _ _ h.qgf).trans this
 · rw [show (l.set k x').length = l.length by simp, ← frqV_set1 l k x x' hk i hi v e]
   exact (h.rows.stored (k * 5 + i) v).1
section
variable {w : World} {F : Foot} {A : A9} {Y : Y8}
theorem Out9.of (h : Pool9 w F A Y) {w' : World} (hb : Below w.heap.size w w') (v : Value) : Out9 w F A Y v (.returned v) w' := ⟨rfl, F, h.more hb, .ofBelow hb⟩
set_option maxRecDepth 100000 in
set_option maxHeartbeats 8000000 in
theorem rqDrop_any (h : Pool9 w F A Y) (i : Int) : Calls Tryz.prog 18 #[.pointer (some ⟨A.q, 0, none⟩), .int .i64 i] w (Out9 w F A (Y.dropY i).1 (.int .i64 (Y.dropY i).2)) := by
 have HO := Lib.hid (rqHolds_any h i)
 have H := Lib.hid h
 obtain ⟨-, -, c2, -⟩ := h.isQ.cells
 cases hh : holds Y.l i with
 | none =>
   have hi : holdsI Y.l i = -1 := by unfold holdsI; rw [hh]
   rw [hi] at HO
   have hfin : Y.dropY i = (Y, 7) := by unfold Y8.dropY; rw [hh]
   rw [hfin]
   clear h hi hfin
   go_enter Tryz.func18, Tryz.ntmps18
   go_wp2_with fail
   refine HO.out.mono ?_
   rintro e w1 ⟨rfl, rfl⟩
   go_wp2
   go_ret
   exact ⟨rfl, F, H.out, .refl _ _⟩
 | some k =>
   have hi : holdsI Y.l i = k := by unfold holdsI; rw [hh]
   rw [hi] at HO
   have hfin : Y.dropY i = (Y.releaseY k, 0) := by unfold Y8.dropY; rw [hh]
   have hok := (h.ok.drop i).1
   rw [hfin] at hok ⊢
   have hlt := holds_lt hh
   obtain ⟨f, hk, -⟩ := holds_some hh
   obtain ⟨d0, d1, d2, d3, d4⟩ := h.isQ.rowS hk
   have hk1 : (k : Int) < Y.l.length := by omega
   have hk0 : (0 : Int) ≤ (k : Int) := by omega
   have hl8 : (Y.l.length : Int) ≤ 8 := by have := h.ok.len8; omega
   have fz : ∀ i, w.frozen? ⟨A.gf, i, none⟩ = false := fun i => h.isQ.rows.frozenAt i
   obtain ⟨k1, k2⟩ := h.putFrame hlt none hok
   have K1 := Lib.hid k1
   have K2 := Lib.hid k2
   clear h hi hfin hok hh hlt hk k1 k2 H
   go_enter Tryz.func18, Tryz.ntmps18
   go_wp2_with fail
   refine HO.out.mono ?_
   rintro e w1 ⟨rfl, rfl⟩
   go_wp2
   go_ret
   exact ⟨rfl, F, K1.out, K2.out⟩
set_option maxRecDepth 100000 in
set_option maxHeartbeats 8000000 in
theorem rqEvict_any (h : Pool9 w F A Y) (k : Int) (ht : Y.t < 4294967296) : Calls Tryz.prog 16 #[.pointer (some ⟨A.q, 0, none⟩), .int .i64 k] w (Out9 w F A (Y.evictY A.base k).1 (.int .i64 (Y.evictY A.base k).2)) := by
 have H := Lib.hid h
 obtain ⟨-, -, c2, -⟩ := h.isQ.cells
 have hl8 : (Y.l.length : Int) ≤ 8 := by have := h.ok.len8; omega
 by_cases hr : 0 ≤ k ∧ k < Y.l.length
 · obtain ⟨K, rfl⟩ := Int.eq_ofNat_of_zero_le hr.1
   have hlt : K < Y.l.length := by omega
   have hk1 : (K : Int) < Y.l.length := by omega
   have hk0 : (0 : Int) ≤ (K : Int) := by omega
   have hx : Y.l[K]? = some Y.l[K] := List.getElem?_eq_getElem hlt
   have hnl : decide (Y.l.length ≤ K) = false := by simp; omega
   cases hc : Y.l[K] with
   | none =>
     rw [hc] at hx
     have hfin : Y.evictY A.base K = (Y, 7) := by unfold Y8.evictY; rw [if_pos hr, Int.toNat_natCast, List.getD_eq_getElem?_getD, hx]; rfl
     rw [hfin]
     have d0 := (h.isQ.rowN hx).1
     clear h hr hfin hc hx ht hlt
     go_enter Tryz.func16, Tryz.ntmps16
     go_wp2
     go_ret
     exact ⟨rfl, F, H.out, .refl _ _⟩
   | some f =>
     rw [hc] at hx
     have hfin : Y.evictY A.base K = Y.emptyY A.base K f := by unfold Y8.evictY; rw [if_pos hr, Int.toNat_natCast, List.getD_eq_getElem?_getD, hx]; rfl
     rw [hfin]
     have d0 := (h.isQ.rowS hx).1
     have EM := Lib.hid (rqEmpty_any h hx ht)
     have hno : (0 : Int) ≤ (f.no : Int) := by omega
     have hno2 : decide ((f.no : Int) < 0) = false := by simp
     clear h hr hfin hc hx ht hlt
     go_enter Tryz.func16, Tryz.ntmps16
     go_wp2_with fail
     refine EM.out.mono ?_
     rintro e w1 ⟨rfl, F1, hp1, hs1⟩
     have P1 := Lib.hid hp1
     have S1 := Lib.hid hs1
     clear hp1 hs1 EM
     go_wp2
     go_ret
     exact ⟨rfl, F1, P1.out, S1.out⟩
 · have hfin : Y.evictY A.base k = (Y, 2) := by unfold Y8.evictY; rw [if_neg hr]
   rw [hfin]
   by_cases h0 : k < 0
   · clear h hr hfin ht
     go_enter Tryz.func16, Tryz.ntmps16
     go_wp2
     go_ret
     exact ⟨rfl, F, H.out, .refl _ _⟩
   · have h1 : (Y.l.length : Int) ≤ k := by omega
     clear h hr hfin ht
     go_enter Tryz.func16, Tryz.ntmps16
     go_wp2
     go_ret
     exact ⟨rfl, F, H.out, .refl _ _⟩
end
end Go.Proofs.YtbplgbkbggmaeaaGreat

namespace Go.Proofs.YtbplgbkbggmaeaaGreat
open Go.RowKit
section
variable {w : World} {F : Foot} {A : A9} {Y : Y8}
set_option maxRecDepth 100000 in
set_option maxHeartbeats 8000000 in
theorem rqPut_none (h : Pool9 w F A Y) (i : Int) (x : Pag) (hh : holds Y.l i = none) : Calls Tryz.prog 14 #[.pointer (some ⟨A.q, 0, none⟩), .int .i64 i, .agg #[.int .i64 x.1, .string x.2]] w (Out9 w F A Y (.int .i64 7)) := by
 have HO : Hid (∀ W, Below w.heap.size w W → _) := fun W hW => rqHolds_any (h.more hW) i
 have hi : holdsI Y.l i = -1 := by unfold holdsI; rw [hh]
 rw [hi] at HO
 obtain ⟨a, d⟩ := x
 have HB := Lib.hid ((Below.refl w.heap.size w).alloc (Nat.le_refl _) (.cells #[.int .i64 a, .string d] 45))
 have H := Lib.hid h
 clear h hi hh
 go_enter Tryz.func14, Tryz.ntmps14
 go_wp2_with fail
 refine (HO.out _ HB.out).mono ?_
 rintro e w1 ⟨rfl, rfl⟩
 go_wp2
 go_ret
 exact Out9.of H.out HB.out _
set_option maxRecDepth 100000 in
set_option maxHeartbeats 8000000 in
theorem rqPut_form (h : Pool9 w F A Y) (i : Int) (x : Pag) {k : Nat} (hh : holds Y.l i = some k) (hx : ¬ PgOk x.1 x.2) : Calls Tryz.prog 14 #[.pointer (some ⟨A.q, 0, none⟩), .int .i64 i, .agg #[.int .i64 x.1, .string x.2]] w (Out9 w F A Y (.int .i64 3)) := by
 have HO : Hid (∀ W, Below w.heap.size w W → _) := fun W hW => rqHolds_any (h.more hW) i
 have hi : holdsI Y.l i = k := by unfold holdsI; rw [hh]
 rw [hi] at HO
 have RT := Lib.hid (fun W => pgRefRight_any (w := W) (a := x.1) (d := x.2) false (by rw [decide_eq_false hx]))
 obtain ⟨a, d⟩ := x
 simp only at RT ⊢
 have hk0 : decide ((k : Int) < 0) = false := by simp
 have X0 := Blk.new w 45 #[.int .i64 a, .string d]
 have HB := Lib.hid ((Below.refl w.heap.size w).alloc (Nat.le_refl _) (.cells #[.int .i64 a, .string d] 45))
 have H := Lib.hid h
 clear h hi hh hx
 go_enter Tryz.func14, Tryz.ntmps14
 go_wp2_with fail
 refine (HO.out _ HB.out).mono ?_
 rintro e w1 ⟨rfl, rfl⟩
 go_wp2_with (refine wpList_load_row rfl 45 _ rfl w.heap.size rfl 45 _ (0, 0) _ X0 Tryz.underlying45 rfl (by kernel_rfl) ?_)
 refine (RT.out _).mono ?_
 rintro e w2 ⟨rfl, hb2⟩
 have HB2 := Lib.hid (below2 HB.out hb2)
 clear hb2 RT HO X0
 go_wp2
 go_ret
 exact Out9.of H.out HB2.out _
set_option maxRecDepth 100000 in
set_option maxHeartbeats 16000000 in
theorem rqPut_clean (h : Pool9 w F A Y) (i : Int) {a' : Int} {d' : ByteArray} {k no : Nat} {a since : Int} {d : ByteArray} (hh : holds Y.l i = some k) (hk : Y.l[k]? = some (some ⟨no, (a, d), false, since⟩)) (hx : PgOk a' d') :
   Calls Tryz.prog 14 #[.pointer (some ⟨A.q, 0, none⟩), .int .i64 i, .agg #[.int .i64 a', .string d']] w (Out9 w F A (Y.setPg k (a', d')) (.int .i64 0)) := by
 have HO : Hid (∀ W, Below w.heap.size w W → _) := fun W hW => rqHolds_any (h.more hW) i
 have hi : holdsI Y.l i = k := by unfold holdsI; rw [hh]
 rw [hi] at HO
 have RT := Lib.hid (fun W => pgRefRight_any (w := W) (a := a') (d := d') true (by rw [decide_eq_true hx]))
 have hok := h.ok.setPg hk (x := (a', d')) hx
 have hset := setPg_some (Y := Y) hk (a', d')
 rw [hset] at hok ⊢
 have hlt := holds_lt hh
 have HOK := Lib.hid hok
 have HLT := Lib.hid hlt
 have HK := Lib.hid hk
 have hk0 : decide ((k : Int) < 0) = false := by simp
 have hk00 : (0 : Int) ≤ (k : Int) := by omega
 have hk1 : (k : Int) < Y.l.length := by omega
 have hl8 : (Y.l.length : Int) ≤ 8 := by have := h.ok.len8; omega
 have X0 := Lib.hid (Blk.new w 45 #[.int .i64 a', .string d'])
 have HB := Lib.hid ((Below.refl w.heap.size w).alloc (Nat.le_refl _) (.cells #[.int .i64 a', .string d'] 45))
 have H := Lib.hid h
 clear h hi hh hx hok hset hlt hk
 go_enter Tryz.func14, Tryz.ntmps14
 go_upto_region 1 with fail
 change Code.wp _ _ _ _ (w.alloc (.cells #[.int .i64 a', .string d'] 45))
 generalize w.alloc (.cells #[.int .i64 a', .string d'] 45) = w1 at *
 have HXQ : Hid (∀ b, OfQ A b → b ≠ w.heap.size) := fun b hb e => by have := H.out.isQ.lt b hb; omega
 generalize hxb : w.heap.size = xb at *
 have HXB := Lib.hid hxb
 clear hxb
 go_wp2_with fail
 refine (HO.out _ HB.out).mono ?_
 rintro e w1' ⟨rfl, rfl⟩
 have x0 := X0.out
 go_wp2_with (refine wpList_load_row rfl 45 _ rfl xb rfl 45 _ (0, 0) _ x0 Tryz.underlying45 rfl (by kernel_rfl) ?_)
 refine (RT.out _).mono ?_
 rintro e w2 ⟨rfl, hb2⟩
 have X2 := Lib.hid (X0.out.keep hb2 X0.out.lt)
 have HBW : Hid (Below w.heap.size w w2) := by
   have h1 := HB.out
   rw [← HXB.out] at h1
   exact below2 h1 hb2
 have P2 := Lib.hid (H.out.more HBW.out)
 have ST2 := Lib.hid (Step.ofBelow (F := F) HBW.out)
 clear hb2 RT HO x0 HB H HBW X0
 have Q2 := Lib.hid P2.out.isQ
 obtain ⟨-, -, c2, -⟩ := Q2.out.cells
 obtain ⟨-, -, -, d3, -⟩ := Q2.out.rowS HK.out
 have C : Hid (∀ W, Below w2.heap.size w2 W → W.cell? ⟨A.q, 2, none⟩ = some (.slice (some ⟨A.gf, 0, none⟩) Y.l.length A.cap) ∧ W.cell? ⟨xb, 0, none⟩ = some (.int .i64 a')) := fun W hW =>
   ⟨(Q2.out.below hW).cells.2.2.1, (X2.out.keep hW X2.out.lt).cell 0⟩
 have HB2 := Lib.hid (Below.refl w2.heap.size w2)
 go_upto_region 7 with fail
 clear c2 d3
 refine' wp_region_conf 9 (.is _ :: .is _ :: .is _ :: .is _ :: .is _ :: .is _ :: .is _ :: .is _ :: .is _ :: []) (by kernel_rfl) (by kernel_rfl) (by kernel_rfl) (by kernel_rfl) rfl ?main
 case main =>
 iterate 9
   apply obs_step
   · rfl
   · intro w4 hE4 hk4
     have hb4 := below2 HB2.out ((Below.refl w2.heap.size w2).drew.trans hE4)
     obtain ⟨e0, e1⟩ := C.out w4 hb4
     clear hk4 hE4
     go_wp2_with (fail)
     first
     | (refine post_eq ?_ (Below.refl _ _)
        simp only [Act.put, sA, sB, sC]
        try rfl
        done)
     | (refine post_eq ?_ (drewN_below _ _)
        simp only [Act.put, sA, sB, sC]
        try rfl
        done)
     | (refine post_eq ?_ hb5
        simp only [Act.put, sA, sB, sC]
        try rfl
        done)
   · simp only [Act.put, sA, sB, sC]
     rfl
 refine obs_end fun w3 hE9 _ => ?_
 have hb9 : Below w2.heap.size w2 w3 := (Below.refl w2.heap.size w2).drew.trans hE9
 clear hE9
 have Q3 := Lib.hid (Q2.out.below hb9)
 have S3 : Hid (Step (OfQ A) (OfQ A) w2 w3) := Step.ofBelow hb9
 have X3 := Lib.hid (X2.out.keep hb9 X2.out.lt)
 clear hb9 HB2 C Q2 X2
 change wpList _ _ _ _ _ _
 obtain ⟨-, -, -, -, d4⟩ := Q3.out.rowS HK.out
 have f4 : w3.frozen? ⟨A.gf, k * 5 + 4, none⟩ = false := Q3.out.rows.frozenAt (k * 5 + 4)
 have hk4 : (Y.l.set k (some ⟨no, (a, d), false, a'⟩))[k]? = some (some ⟨no, (a, d), false, a'⟩) := by rw [getElem?_set_frs, if_pos rfl, if_pos HLT.out]
 have HK4 := Lib.hid hk4
 have Q4 := Lib.hid (Q3.out.put1 HK.out 4 (by omega) (.int .i64 a') (some ⟨no, (a, d), false, a'⟩) rfl)
 have S4 : Hid (Step (OfQ A) (OfQ A) w2 (w3.setCell ⟨A.gf, k * 5 + 4, none⟩ (.int .i64 a'))) := S3.out.set (p := ⟨A.gf, k * 5 + 4, none⟩) (.inr rfl) _
 have X4 := Lib.hid (X3.out.far (p := ⟨A.gf, k * 5 + 4, none⟩) (fun e => HXQ.out A.gf (.inr rfl) e.symm) (.int .i64 a'))
 clear hk4 Q3 S3 X3
 go_upto_region 8 with fail
 generalize w3.setCell ⟨A.gf, k * 5 + 4, none⟩ (.int .i64 a') = w5 at *
 clear d4 f4
 have C8 : Hid (∀ W, Below w5.heap.size w5 W → W.cell? ⟨A.q, 2, none⟩ = some (.slice (some ⟨A.gf, 0, none⟩) Y.l.length A.cap) ∧ Blk W xb 45 #[.int .i64 a', .string d']) := fun W hW => by
   refine ⟨?_, X4.out.keep hW X4.out.lt⟩
   have := (Q4.out.below hW).cells.2.2.1
   simpa using this
 have HB5 := Lib.hid (Below.refl w5.heap.size w5)
 refine' wp_region_conf 8 (.is _ :: .is _ :: .is _ :: .is _ :: .is _ :: .is _ :: .is _ :: .is _ :: []) (by kernel_rfl) (by kernel_rfl) (by kernel_rfl) (by kernel_rfl) rfl ?main
 case main =>
 iterate 8
   apply obs_step
   · rfl
   · intro w4 hE4 hk4
     have hb4 := below2 HB5.out ((Below.refl w5.heap.size w5).drew.trans hE4)
     obtain ⟨e0, x8⟩ := C8.out w4 hb4
     clear hk4 hE4
     go_wp2_with (refine wpList_load_row rfl 45 _ rfl xb rfl 45 _ (0, 0) _ x8 Tryz.underlying45 rfl (by kernel_rfl) ?_)
     first
     | (refine post_eq ?_ (Below.refl _ _)
        simp only [Act.put, sA, sB, sC]
        try rfl
        done)
     | (refine post_eq ?_ (drewN_below _ _)
        simp only [Act.put, sA, sB, sC]
        try rfl
        done)
     | (refine post_eq ?_ hb5
        simp only [Act.put, sA, sB, sC]
        try rfl
        done)
   · simp only [Act.put, sA, sB, sC]
     rfl
 refine obs_end fun w6 hE9 _ => ?_
 have hb9 : Below w5.heap.size w5 w6 := (Below.refl w5.heap.size w5).drew.trans hE9
 clear hE9
 have Q6 := Lib.hid (Q4.out.below hb9)
 have S6 := Lib.hid (S4.out.trans (Step.ofBelow hb9))
 clear hb9 HB5 C8 Q4 S4 X4
 change wpList _ _ _ _ _ _
 obtain ⟨-, d1, d2, d3, -⟩ := Q6.out.rowS HK4.out
 have fz : ∀ j, w6.frozen? ⟨A.gf, j, none⟩ = false := fun j => Q6.out.rows.frozenAt j
 have Q7 := Q6.out.put1 HK4.out 1 (by omega) (.int .i64 a') (some ⟨no, (a', d), false, a'⟩) rfl
 have hk7 : ((Y.l.set k (some ⟨no, (a, d), false, a'⟩)).set k (some ⟨no, (a', d), false, a'⟩))[k]? = some (some ⟨no, (a', d), false, a'⟩) := by rw [getElem?_set_frs, if_pos rfl, if_pos (by simpa using HLT.out)]
 have Q8 := Q7.put1 hk7 2 (by omega) (.string d') (some ⟨no, (a', d'), false, a'⟩) rfl
 have hk8 : (((Y.l.set k (some ⟨no, (a, d), false, a'⟩)).set k (some ⟨no, (a', d), false, a'⟩)).set k (some ⟨no, (a', d'), false, a'⟩))[k]? = some (some ⟨no, (a', d'), false, a'⟩) := by rw [getElem?_set_frs, if_pos rfl, if_pos (by simpa using HLT.out)]
 have Q9 := Q8.put1 hk8 3 (by omega) (.bool true) (some ⟨no, (a', d'), true, a'⟩) rfl
 have c6 : w6.cell? ⟨A.q, 2, none⟩ = some (.slice (some ⟨A.gf, 0, none⟩) Y.l.length A.cap) := by
   have := Q6.out.cells.2.2.1
   simpa using this
 have S9 := ((S6.out.set (p := ⟨A.gf, k * 5 + 1, none⟩) (.inr rfl) (.int .i64 a')).set (p := ⟨A.gf, k * 5 + 2, none⟩) (.inr rfl) (.string d')).set (p := ⟨A.gf, k * 5 + 3, none⟩) (.inr rfl) (.bool true)
 have hl9 : (((Y.l.set k (some ⟨no, (a, d), false, a'⟩)).set k (some ⟨no, (a', d), false, a'⟩)).set k (some ⟨no, (a', d'), false, a'⟩)).set k (some ⟨no, (a', d'), true, a'⟩) = Y.l.set k (some ⟨no, (a', d'), true, a'⟩) := by simp
 rw [hl9] at Q9
 obtain ⟨k1, k2⟩ := P2.out.onPool (hand := Y.hand) Q9 S9 (by have := HOK.out; simpa using this)
 have K1 := Lib.hid k1
 have K2 := Lib.hid (ST2.out.trans k2)
 have HQG := Lib.hid Q6.out.qgf
 clear k1 k2 Q7 Q8 Q9 S9 hl9 hk7 hk8 Q6 S6 P2 ST2 HOK HLT HK
 have hqg := HQG.out
 go_wp2
 go_ret
 exact ⟨rfl, F, by simpa using K1.out, by simpa using K2.out⟩
set_option maxRecDepth 100000 in
set_option maxHeartbeats 16000000 in
theorem rqPut_dirty (h : Pool9 w F A Y) (i : Int) {a' : Int} {d' : ByteArray} {k no : Nat} {a since : Int} {d : ByteArray} (hh : holds Y.l i = some k) (hk : Y.l[k]? = some (some ⟨no, (a, d), true, since⟩)) (hx : PgOk a' d') :
   Calls Tryz.prog 14 #[.pointer (some ⟨A.q, 0, none⟩), .int .i64 i, .agg #[.int .i64 a', .string d']] w (Out9 w F A (Y.setPg k (a', d')) (.int .i64 0)) := by
 have HO : Hid (∀ W, Below w.heap.size w W → _) := fun W hW => rqHolds_any (h.more hW) i
 have hi : holdsI Y.l i = k := by unfold holdsI; rw [hh]
 rw [hi] at HO
 have RT := Lib.hid (fun W => pgRefRight_any (w := W) (a := a') (d := d') true (by rw [decide_eq_true hx]))
 have hok := h.ok.setPg hk (x := (a', d')) hx
 have hset := setPg_some (Y := Y) hk (a', d')
 rw [hset] at hok ⊢
 have hlt := holds_lt hh
 have HOK := Lib.hid hok
 have HLT := Lib.hid hlt
 have HK := Lib.hid hk
 have hk0 : decide ((k : Int) < 0) = false := by simp
 have hk00 : (0 : Int) ≤ (k : Int) := by omega
 have hk1 : (k : Int) < Y.l.length := by omega
 have hl8 : (Y.l.length : Int) ≤ 8 := by have := h.ok.len8; omega
 have X0 := Lib.hid (Blk.new w 45 #[.int .i64 a', .string d'])
 have HB := Lib.hid ((Below.refl w.heap.size w).alloc (Nat.le_refl _) (.cells #[.int .i64 a', .string d'] 45))
 have H := Lib.hid h
 clear h hi hh hx hok hset hlt hk
 go_enter Tryz.func14, Tryz.ntmps14
 go_upto_region 1 with fail
 change Code.wp _ _ _ _ (w.alloc (.cells #[.int .i64 a', .string d'] 45))
 generalize w.alloc (.cells #[.int .i64 a', .string d'] 45) = w1 at *
 have HXQ : Hid (∀ b, OfQ A b → b ≠ w.heap.size) := fun b hb e => by have := H.out.isQ.lt b hb; omega
 generalize hxb : w.heap.size = xb at *
 have HXB := Lib.hid hxb
 clear hxb
 go_wp2_with fail
 refine (HO.out _ HB.out).mono ?_
 rintro e w1' ⟨rfl, rfl⟩
 have x0 := X0.out
 go_wp2_with (refine wpList_load_row rfl 45 _ rfl xb rfl 45 _ (0, 0) _ x0 Tryz.underlying45 rfl (by kernel_rfl) ?_)
 refine (RT.out _).mono ?_
 rintro e w2 ⟨rfl, hb2⟩
 have X2 := Lib.hid (X0.out.keep hb2 X0.out.lt)
 have HBW : Hid (Below w.heap.size w w2) := by
   have h1 := HB.out
   rw [← HXB.out] at h1
   exact below2 h1 hb2
 have P2 := Lib.hid (H.out.more HBW.out)
 have ST2 := Lib.hid (Step.ofBelow (F := F) HBW.out)
 clear hb2 RT HO x0 HB H HBW X0
 have Q2 := Lib.hid P2.out.isQ
 obtain ⟨-, -, c2, -⟩ := Q2.out.cells
 obtain ⟨-, -, -, d3, -⟩ := Q2.out.rowS HK.out
 have S2 : Hid (Step (OfQ A) (OfQ A) w2 w2) := Step.refl _ _
 go_upto_region 8 with fail
 clear c2 d3
 have C8 : Hid (∀ W, Below w2.heap.size w2 W → W.cell? ⟨A.q, 2, none⟩ = some (.slice (some ⟨A.gf, 0, none⟩) Y.l.length A.cap) ∧ Blk W xb 45 #[.int .i64 a', .string d']) := fun W hW => by
   refine ⟨?_, X2.out.keep hW X2.out.lt⟩
   have := (Q2.out.below hW).cells.2.2.1
   simpa using this
 have HB5 := Lib.hid (Below.refl w2.heap.size w2)
 refine' wp_region_conf 8 (.is _ :: .is _ :: .is _ :: .is _ :: .is _ :: .is _ :: .is _ :: .is _ :: []) (by kernel_rfl) (by kernel_rfl) (by kernel_rfl) (by kernel_rfl) rfl ?main
 case main =>
 iterate 8
   apply obs_step
   · rfl
   · intro w4 hE4 hk4
     have hb4 := below2 HB5.out ((Below.refl w2.heap.size w2).drew.trans hE4)
     obtain ⟨e0, x8⟩ := C8.out w4 hb4
     clear hk4 hE4
     go_wp2_with (refine wpList_load_row rfl 45 _ rfl xb rfl 45 _ (0, 0) _ x8 Tryz.underlying45 rfl (by kernel_rfl) ?_)
     first
     | (refine post_eq ?_ (Below.refl _ _)
        simp only [Act.put, sA, sB, sC]
        try rfl
        done)
     | (refine post_eq ?_ (drewN_below _ _)
        simp only [Act.put, sA, sB, sC]
        try rfl
        done)
     | (refine post_eq ?_ hb5
        simp only [Act.put, sA, sB, sC]
        try rfl
        done)
   · simp only [Act.put, sA, sB, sC]
     rfl
 refine obs_end fun w6 hE9 _ => ?_
 have hb9 : Below w2.heap.size w2 w6 := (Below.refl w2.heap.size w2).drew.trans hE9
 clear hE9
 have Q6 := Lib.hid (Q2.out.below hb9)
 have S6 := Lib.hid (S2.out.trans (Step.ofBelow hb9))
 clear hb9 HB5 C8 Q2 S2 X2
 change wpList _ _ _ _ _ _
 obtain ⟨-, d1, d2, d3, -⟩ := Q6.out.rowS HK.out
 have fz : ∀ j, w6.frozen? ⟨A.gf, j, none⟩ = false := fun j => Q6.out.rows.frozenAt j
 have Q7 := Q6.out.put1 HK.out 1 (by omega) (.int .i64 a') (some ⟨no, (a', d), true, since⟩) rfl
 have hk7 : (Y.l.set k (some ⟨no, (a', d), true, since⟩))[k]? = some (some ⟨no, (a', d), true, since⟩) := by rw [getElem?_set_frs, if_pos rfl, if_pos (by simpa using HLT.out)]
 have Q8 := Q7.put1 hk7 2 (by omega) (.string d') (some ⟨no, (a', d'), true, since⟩) rfl
 have hk8 : ((Y.l.set k (some ⟨no, (a', d), true, since⟩)).set k (some ⟨no, (a', d'), true, since⟩))[k]? = some (some ⟨no, (a', d'), true, since⟩) := by rw [getElem?_set_frs, if_pos rfl, if_pos (by simpa using HLT.out)]
 have Q9 := Q8.put1 hk8 3 (by omega) (.bool true) (some ⟨no, (a', d'), true, since⟩) rfl
 have c6 : w6.cell? ⟨A.q, 2, none⟩ = some (.slice (some ⟨A.gf, 0, none⟩) Y.l.length A.cap) := by
   have := Q6.out.cells.2.2.1
   simpa using this
 have S9 := ((S6.out.set (p := ⟨A.gf, k * 5 + 1, none⟩) (.inr rfl) (.int .i64 a')).set (p := ⟨A.gf, k * 5 + 2, none⟩) (.inr rfl) (.string d')).set (p := ⟨A.gf, k * 5 + 3, none⟩) (.inr rfl) (.bool true)
 have hl9 : ((Y.l.set k (some ⟨no, (a', d), true, since⟩)).set k (some ⟨no, (a', d'), true, since⟩)).set k (some ⟨no, (a', d'), true, since⟩) = Y.l.set k (some ⟨no, (a', d'), true, since⟩) := by simp
 rw [hl9] at Q9
 obtain ⟨k1, k2⟩ := P2.out.onPool (hand := Y.hand) Q9 S9 (by have := HOK.out; simpa using this)
 have K1 := Lib.hid k1
 have K2 := Lib.hid (ST2.out.trans k2)
 have HQG := Lib.hid Q6.out.qgf
 clear k1 k2 Q7 Q8 Q9 S9 hl9 hk7 hk8 Q6 S6 P2 ST2 HOK HLT HK
 have hqg := HQG.out
 go_wp2
 go_ret
 exact ⟨rfl, F, by simpa using K1.out, by simpa using K2.out⟩
theorem rqPut_any (h : Pool9 w F A Y) (i : Int) (x : Pag) : Calls Tryz.prog 14 #[.pointer (some ⟨A.q, 0, none⟩), .int .i64 i, .agg #[.int .i64 x.1, .string x.2]] w (Out9 w F A (Y.putY i x).1 (.int .i64 (Y.putY i x).2)) := by
 unfold Y8.putY
 cases hh : holds Y.l i with
 | none => exact rqPut_none h i x hh
 | some k =>
   simp only
   by_cases hx : PgOk x.1 x.2
   · rw [if_pos hx]
     obtain ⟨f, hk, -⟩ := holds_some hh
     obtain ⟨no, ⟨a, d⟩, dirty, since⟩ := f
     cases dirty with
     | true => exact rqPut_dirty h i hh hk hx
     | false => exact rqPut_clean h i hh hk hx
   · rw [if_neg hx]
     exact rqPut_form h i x hh hx
end
end Go.Proofs.YtbplgbkbggmaeaaGreat
