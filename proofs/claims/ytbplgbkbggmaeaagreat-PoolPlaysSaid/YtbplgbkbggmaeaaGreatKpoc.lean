/- Texts that belong together, joined: PoG, PoH, PoJ. -/
import Derived.Test.YtbplgbkbggmaeaaGreatKpob
namespace Go.Proofs.YtbplgbkbggmaeaaGreat
open Go.RowKit
theorem frsV_set1 : ∀ (l : Frs) (k : Nat) (x x' : Option Fr8) (_ : l[k]? = some x) (i : Nat) (_ : i < 6) (v : Value) (_ : frCells x' = (frCells x).set i v), (frsV l).set (k * 6 + i) v = frsV (l.set k x')
 | [], k, _, _, h, _, _, _, _ => by simp at h
 | y :: l, 0, x, x', h, i, hi, v, hx => by
   simp only [List.getElem?_cons_zero, Option.some.injEq] at h
   subst h
   have e : frsV (y :: l) = frCells y ++ frsV l := rfl
   have e2 : frsV ((y :: l).set 0 x') = frCells x' ++ frsV l := rfl
   rw [e, e2, hx, Nat.zero_mul, Nat.zero_add, List.set_append_left _ _ (by rw [frCells_len]; exact hi)]
 | y :: l, k + 1, x, x', h, i, hi, v, hx => by
   have e : frsV (y :: l) = frCells y ++ frsV l := rfl
   have e2 : frsV ((y :: l).set (k + 1) x') = frCells y ++ frsV (l.set k x') := rfl
   rw [e, e2, ← frsV_set1 l k x x' (by simpa using h) i hi v hx, List.set_append_right _ _ (by rw [frCells_len]; omega), frCells_len]
   congr 2
   omega
theorem put1_same {w : World} {gf k : Nat} {l : Frs} (h : Blk w gf 104 (frsA l)) {x : Option Fr8} (hk : l[k]? = some x) (i : Nat) (hi : i < 6) (v : Value) (x' : Option Fr8) (hx : frCells x' = (frCells x).set i v) : Blk (w.setCell ⟨gf, k * 6 + i, none⟩ v) gf 104 (frsA (l.set k x')) := by
 have := h.set (k * 6 + i) v
 have e : (frsA l).setIfInBounds (k * 6 + i) v = frsA (l.set k x') := by
   unfold frsA
   rw [List.setIfInBounds_toArray, frsV_set1 l k x x' hk i hi v hx]
 rw [e] at this
 exact this
theorem IsP.put1 {w : World} {A : A8} {l : Frs} {hand : Nat} (h : IsP w A l hand) {k : Nat} {x : Option Fr8} (hk : l[k]? = some x) (i : Nat) (hi : i < 6) (v : Value) (x' : Option Fr8) (hx : frCells x' = (frCells x).set i v) (hu : ∀ c, holds (l.set k x') c = holds l c) :
   IsP (w.setCell ⟨A.gf, k * 6 + i, none⟩ v) A (l.set k x') hand ∧ Step (OfP A) (OfP A) w (w.setCell ⟨A.gf, k * 6 + i, none⟩ v) :=
 ⟨⟨by rw [List.length_set]; exact h.head.far (p := ⟨A.gf, k * 6 + i, none⟩) h.qgf v, put1_same h.rows hk i hi v x' hx, (h.map.keep (heap_setCell_other w _ _ v h.gfm.symm)).congr fun c => by unfold hm; rw [hu c]⟩, (Step.refl _ w).set (p := ⟨A.gf, k * 6 + i, none⟩) (.inr (.inl rfl)) v⟩
namespace Y8
def setPg (Y : Y8) (k : Nat) (x : Pag) : Y8 := match Y.l.getD k none with
 | some f => { Y with l := Y.l.set k (some ⟨f.no, x, true, if f.dirty = true then f.since else x.1⟩) }
 | none => Y
def putY (Y : Y8) (i : Int) (x : Pag) : Y8 × Nat := match holds Y.l i with
 | none => (Y, 7)
 | some k => if PgOk x.1 x.2 then (Y.setPg k x, 0) else (Y, 3)
def evictY (base : Nat) (Y : Y8) (k : Int) : Y8 × Nat := if 0 ≤ k ∧ k < Y.l.length then match Y.l.getD k.toNat none with
   | some f => Y.emptyY base k.toNat f
   | none => (Y, 7)
 else (Y, 2)
def dropY (Y : Y8) (i : Int) : Y8 × Nat := match holds Y.l i with
 | none => (Y, 7)
 | some k => (Y.releaseY k, 0)
end Y8
theorem setPg_some {Y : Y8} {k : Nat} {f : Fr8} (hk : Y.l[k]? = some (some f)) (x : Pag) : Y.setPg k x = { Y with l := Y.l.set k (some ⟨f.no, x, true, if f.dirty = true then f.since else x.1⟩) } := by
 unfold Y8.setPg
 simp only [List.getD_eq_getElem?_getD, hk, Option.getD_some]
theorem Ok8.setPg {base n : Nat} {Y : Y8} (h : Ok8 base n Y) {k : Nat} {f : Fr8} (hk : Y.l[k]? = some (some f)) {x : Pag} (hx : x.Right) : Ok8 base n (Y.setPg k x) := by
 rw [setPg_some hk]
 refine h.frame (by simp) (uniq_set h.uniq fun j g hj e => (h.uniq k j f g hk hj e.symm).symm) fun j g hj => ?_
 rw [getElem?_set_frs] at hj
 split at hj
 · split at hj
   · cases hj
     exact ⟨(h.fr k f hk).1, hx⟩
   · cases hj
 · exact h.fr j g hj
theorem Ok8.put {base n : Nat} {Y : Y8} (h : Ok8 base n Y) (i : Int) (x : Pag) : Ok8 base n (Y.putY i x).1 ∧ (Y.putY i x).1.t = Y.t := by
 unfold Y8.putY
 cases hh : holds Y.l i with
 | none => exact ⟨h, rfl⟩
 | some k =>
   obtain ⟨f, hk, _⟩ := holds_some hh
   simp only
   split
   · rename_i hx
     exact ⟨h.setPg hk hx, by rw [setPg_some hk]⟩
   · exact ⟨h, rfl⟩
theorem Ok8.evict {base n : Nat} {Y : Y8} (h : Ok8 base n Y) (k : Int) : Ok8 base n (Y.evictY base k).1 ∧ (Y.evictY base k).1.t ≤ Y.t + 1 := by
 unfold Y8.evictY
 split
 · rename_i hk
   have hlt : k.toNat < Y.l.length := by omega
   cases hx : Y.l[k.toNat]? with
   | none => rw [List.getElem?_eq_none_iff] at hx; omega
   | some x =>
     simp only [List.getD_eq_getElem?_getD, hx, Option.getD_some]
     cases x with
     | none => exact ⟨h, by simp⟩
     | some f =>
       obtain ⟨a1, _, _, a4, _⟩ := h.empty hx
       exact ⟨a1, a4⟩
 · exact ⟨h, by simp⟩
theorem Ok8.drop {base n : Nat} {Y : Y8} (h : Ok8 base n Y) (i : Int) : Ok8 base n (Y.dropY i).1 ∧ (Y.dropY i).1.t = Y.t := by
 unfold Y8.dropY
 cases hh : holds Y.l i with
 | none => exact ⟨h, rfl⟩
 | some k => exact ⟨h.release k, rfl⟩
section
variable {w : World} {F : Foot} {A : A8} {Y : Y8}
theorem p8_readAny (h : Pool8 w F A Y) (i : Int) (ht : Y.t ≤ 4294967296) : Calls Tryz.prog 29 #[.pointer (some ⟨A.s, 0, none⟩), .int .i64 i] w fun e w' => e = .returned (pgOut (Y.readY A.n i).1 (Y.readY A.n i).2) ∧ Below w.heap.size w w' := by
 unfold Y8.readY
 by_cases hi : 0 ≤ i ∧ i < A.n
 · obtain ⟨j, rfl⟩ := Int.eq_ofNat_of_zero_le hi.1
   rw [if_pos hi]
   by_cases hg : Y.D.gone = true
   · rw [if_pos hg]; exact p8_dead h hg (by omega)
   · rw [if_neg hg]; exact p8_read h (by simpa using hg) (by omega) ht
 · rw [if_neg hi]; exact p8_range h (by omega)
set_option maxRecDepth 100000 in
set_option maxHeartbeats 8000000 in
theorem poPeek_held (h : Pool8 w F A Y) (i : Int) {k : Nat} {f : Fr8} (hh : holds Y.l i = some k) (hk : Y.l[k]? = some (some f)) : Calls Tryz.prog 33 #[.pointer (some ⟨A.q, 0, none⟩), .int .i64 i] w fun e w' => e = .returned (pgOut f.pg 0) ∧ Below w.heap.size w w' := by
 have R0 := Blk.new w 45 #[.int .i64 0, .string ⟨#[]⟩]
 have hb := (Below.refl w.heap.size w).alloc (Nat.le_refl _) (.cells #[.int .i64 0, .string ⟨#[]⟩] 45)
 have P1 := Lib.hid (h.more hb)
 have HB := Lib.hid hb
 have OWN := Lib.hid (fun W => poOwn_any f.pg.1 f.pg.2 (held_own h hk) W)
 obtain ⟨c0, c1, c2, c3, c4⟩ := P1.out.isP.cells
 obtain ⟨d0, d1, d2, d3, d4, d5⟩ := rowC6 P1.out.isP.rows hk
 have hkl := (List.getElem?_eq_some_iff.1 hk).1
 have hk1 : (k : Int) < Y.l.length := by omega
 have LK := look_some P1.out.isP.map hh
 clear h hb hh hk hkl
 unfold pgOut
 go_enter Tryz.func33, Tryz.ntmps33
 go_upto_region 1 with fail
 change Code.wp _ _ _ _ (w.alloc (.cells #[.int .i64 0, .string ⟨#[]⟩] 45))
 generalize w.alloc (.cells #[.int .i64 0, .string ⟨#[]⟩] 45) = w1 at *
 go_wp2_with fail
 refine (OWN.out _).mono ?_
 rintro e w2 ⟨rfl, hb2⟩
 replace R0 := R0.keep hb2 R0.lt
 have HB2 := Lib.hid (below2 HB.out hb2)
 clear hb2 c0 c1 c2 c3 c4 d0 d1 d2 d3 d4 d5 LK OWN P1
 go_wp2_with (refine wpList_store_row rfl 45 _ _ rfl w.heap.size _ rfl rfl 45 _ R0 (by kernel_rfl) (by simp) (by simp [Value.oneCell']) ?_)
 exact bodyPost_ret (results_row_tmp rfl _ _ w.heap.size 45 _ _ rfl (R0.setRow _) Tryz.underlying45 rfl (by kernel_rfl)) rfl ⟨rfl, below_setRow HB2.out (Nat.le_refl _) _⟩
set_option maxRecDepth 100000 in
set_option maxHeartbeats 8000000 in
theorem poPeek_none (h : Pool8 w F A Y) (i : Int) (hh : holds Y.l i = none) (ht : Y.t ≤ 4294967296) : Calls Tryz.prog 33 #[.pointer (some ⟨A.q, 0, none⟩), .int .i64 i] w fun e w' => e = .returned (pgOut (Y.readY A.n i).1 (Y.readY A.n i).2) ∧ Below w.heap.size w w' := by
 have R0 := Blk.new w 45 #[.int .i64 0, .string ⟨#[]⟩]
 have hb := (Below.refl w.heap.size w).alloc (Nat.le_refl _) (.cells #[.int .i64 0, .string ⟨#[]⟩] 45)
 have P1 := Lib.hid (h.more hb)
 have HB := Lib.hid hb
 have RD := p8_readAny P1.out i ht
 generalize Y.readY A.n i = Z at *
 obtain ⟨⟨a, d⟩, er⟩ := Z
 unfold pgOut at RD ⊢
 simp only at RD ⊢
 replace RD := Lib.hid RD
 obtain ⟨c0, c1, c2, c3, c4⟩ := P1.out.isP.cells
 have LK := look_none P1.out.isP.map hh
 clear h hb hh ht
 go_enter Tryz.func33, Tryz.ntmps33
 go_upto_region 1 with fail
 change Code.wp _ _ _ _ (w.alloc (.cells #[.int .i64 0, .string ⟨#[]⟩] 45))
 generalize w.alloc (.cells #[.int .i64 0, .string ⟨#[]⟩] 45) = w1 at *
 go_wp2_with fail
 refine RD.out.mono ?_
 rintro e w2 ⟨rfl, hb2⟩
 replace R0 := R0.keep hb2 R0.lt
 have HB2 := Lib.hid (below2 HB.out hb2)
 clear hb2 c0 c1 c2 c3 c4 LK RD P1
 go_wp2_with (refine wpList_store_row rfl 45 _ _ rfl w.heap.size _ rfl rfl 45 _ R0 (by kernel_rfl) (by simp) (by simp [Value.oneCell']) ?_)
 exact bodyPost_ret (results_row_tmp rfl _ _ w.heap.size 45 _ _ rfl (R0.setRow _) Tryz.underlying45 rfl (by kernel_rfl)) rfl ⟨rfl, below_setRow HB2.out (Nat.le_refl _) _⟩
theorem poPeek_any (h : Pool8 w F A Y) (i : Int) (ht : Y.t ≤ 4294967296) : Calls Tryz.prog 33 #[.pointer (some ⟨A.q, 0, none⟩), .int .i64 i] w fun e w' => e = .returned (pgOut (Y.peekY A.n i).1 (Y.peekY A.n i).2) ∧ Below w.heap.size w w' := by
 unfold Y8.peekY
 cases hh : holds Y.l i with
 | none => exact poPeek_none h i hh ht
 | some k =>
   obtain ⟨f, hk, _⟩ := holds_some hh
   simp only [pageAt_some hk]
   exact poPeek_held h i hh hk
set_option maxRecDepth 100000 in
set_option maxHeartbeats 8000000 in
theorem poDrop_any (h : Pool8 w F A Y) (i : Int) : Calls Tryz.prog 17 #[.pointer (some ⟨A.q, 0, none⟩), .int .i64 i] w (Out8 w F A (Y.dropY i).1 (.int .i64 (Y.dropY i).2)) := by
 obtain ⟨c0, c1, c2, c3, c4⟩ := h.isP.cells
 unfold Y8.dropY
 cases hh : holds Y.l i with
 | none =>
   have LK := look_none h.isP.map hh
   have H := Lib.hid h
   clear h hh
   go_enter Tryz.func17, Tryz.ntmps17
   go_wp2
   go_ret
   exact ⟨rfl, F, H.out, .refl _ _⟩
 | some k =>
   obtain ⟨f, hk, _⟩ := holds_some hh
   have LK := look_some h.isP.map hh
   have RL := Lib.hid (poRelease_any h hk)
   clear h hh hk
   go_enter Tryz.func17, Tryz.ntmps17
   go_wp2_with fail
   refine RL.out.mono ?_
   rintro e w1 ⟨rfl, F1, hp1, hs1⟩
   have P1 := Lib.hid hp1
   have S1 := Lib.hid hs1
   clear hp1 hs1 RL
   go_wp2
   go_ret
   exact ⟨rfl, F1, P1.out, S1.out⟩
set_option maxRecDepth 100000 in
set_option maxHeartbeats 8000000 in
theorem poEvict_any (h : Pool8 w F A Y) (k : Int) (ht : Y.t < 4294967296) : Calls Tryz.prog 15 #[.pointer (some ⟨A.q, 0, none⟩), .int .i64 k] w (Out8 w F A (Y.evictY A.base k).1 (.int .i64 (Y.evictY A.base k).2)) := by
 obtain ⟨c0, c1, c2, c3, c4⟩ := h.isP.cells
 unfold Y8.evictY
 by_cases hk : 0 ≤ k ∧ k < Y.l.length
 · rw [if_pos hk]
   obtain ⟨j, rfl⟩ := Int.eq_ofNat_of_zero_le hk.1
   have hjl : j < Y.l.length := by omega
   have hx : Y.l[j]? = some Y.l[j] := List.getElem?_eq_getElem hjl
   have hd : decide ((j : Int) < 0) = false := by simp
   have hd2 : decide ((Y.l.length : Int) ≤ (j : Int)) = false := by simp; omega
   have hd3 : decide (Y.l.length ≤ j) = false := by simp; omega
   have hj1 : (j : Int) < Y.l.length := by omega
   rw [Int.toNat_natCast]
   simp only [List.getD_eq_getElem?_getD, hx, Option.getD_some]
   cases he : Y.l[j] with
   | none =>
     rw [he] at hx
     obtain ⟨d0, _⟩ := rowC0 h.isP.rows hx
     have H := Lib.hid h
     clear h hk he hx ht hjl
     generalize Y.l.length = n at *
     go_enter Tryz.func15, Tryz.ntmps15
     go_wp2
     go_ret
     exact ⟨rfl, F, H.out, .refl _ _⟩
   | some f =>
     rw [he] at hx
     obtain ⟨d0, _⟩ := rowC6 h.isP.rows hx
     have EM := Lib.hid (poEmpty_any h hx ht)
     clear h hk he hx ht hjl
     simp only
     generalize Y.emptyY A.base j f = Z at *
     obtain ⟨Y1, er⟩ := Z
     generalize Y.l.length = n at *
     go_enter Tryz.func15, Tryz.ntmps15
     go_wp2_with fail
     refine EM.out.mono ?_
     rintro e w1 ⟨rfl, F1, hp1, hs1⟩
     have P1 := Lib.hid hp1
     have S1 := Lib.hid hs1
     clear hp1 hs1 EM
     go_wp2
     go_ret
     exact ⟨rfl, F1, P1.out, S1.out⟩
 · rw [if_neg hk]
   have H := Lib.hid h
   clear h
   generalize Y.l.length = n at *
   by_cases h0 : k < 0
   · have hd : decide (k < 0) = true := by simp [h0]
     clear hk
     go_enter Tryz.func15, Tryz.ntmps15
     go_wp2
     go_ret
     exact ⟨rfl, F, H.out, .refl _ _⟩
   · have hd : decide (k < 0) = false := by simp [h0]
     have hd2 : decide ((n : Int) ≤ k) = true := by simp; omega
     clear hk
     go_enter Tryz.func15, Tryz.ntmps15
     go_wp2
     go_ret
     exact ⟨rfl, F, H.out, .refl _ _⟩
set_option maxRecDepth 100000 in
set_option maxHeartbeats 8000000 in
theorem poPut_none (h : Pool8 w F A Y) (i : Int) (x : Pag) (hh : holds Y.l i = none) : Calls Tryz.prog 13 #[.pointer (some ⟨A.q, 0, none⟩), .int .i64 i, .agg #[.int .i64 x.1, .string x.2]] w (Out8 w F A Y (.int .i64 7)) := by
 have hb := (Below.refl w.heap.size w).alloc (Nat.le_refl _) (.cells #[.int .i64 x.1, .string x.2] 45)
 have P1 := Lib.hid (h.more hb)
 have HB := Lib.hid hb
 obtain ⟨c0, c1, c2, c3, c4⟩ := P1.out.isP.cells
 have LK := look_none P1.out.isP.map hh
 clear h hb hh
 go_enter Tryz.func13, Tryz.ntmps13
 go_upto_region 1 with fail
 change Code.wp _ _ _ _ (w.alloc (.cells #[.int .i64 x.1, .string x.2] 45))
 generalize w.alloc (.cells #[.int .i64 x.1, .string x.2] 45) = w1 at *
 go_wp2
 go_ret
 exact ⟨rfl, F, P1.out, .ofBelow HB.out⟩
set_option maxRecDepth 100000 in
set_option maxHeartbeats 8000000 in
theorem poPut_form (h : Pool8 w F A Y) (i : Int) (x : Pag) {k : Nat} (hh : holds Y.l i = some k) (hx : ¬ PgOk x.1 x.2) : Calls Tryz.prog 13 #[.pointer (some ⟨A.q, 0, none⟩), .int .i64 i, .agg #[.int .i64 x.1, .string x.2]] w (Out8 w F A Y (.int .i64 3)) := by
 have hb := (Below.refl w.heap.size w).alloc (Nat.le_refl _) (.cells #[.int .i64 x.1, .string x.2] 45)
 have X0 := Blk.new w 45 #[.int .i64 x.1, .string x.2]
 have P1 := Lib.hid (h.more hb)
 have HB := Lib.hid hb
 obtain ⟨c0, c1, c2, c3, c4⟩ := P1.out.isP.cells
 have LK := look_some P1.out.isP.map hh
 have RG := Lib.hid (fun W => pgRight_any x.1 x.2 W false (by simp [hx]))
 clear h hb hh hx
 go_enter Tryz.func13, Tryz.ntmps13
 go_upto_region 1 with fail
 change Code.wp _ _ _ _ (w.alloc (.cells #[.int .i64 x.1, .string x.2] 45))
 generalize w.alloc (.cells #[.int .i64 x.1, .string x.2] 45) = w1 at *
 go_wp2_with (refine wpList_load_row rfl 45 _ rfl w.heap.size rfl 45 _ (0, 0) _ X0 Tryz.underlying45 rfl (by kernel_rfl) ?_)
 refine (RG.out _).mono ?_
 rintro e w2 ⟨rfl, hb2⟩
 have P2 := Lib.hid (P1.out.more hb2)
 have HB2 := Lib.hid (below2 HB.out hb2)
 clear hb2 P1 HB X0 c0 c1 c2 c3 c4 LK RG
 go_wp2
 go_ret
 exact ⟨rfl, F, P2.out, .ofBelow HB2.out⟩
end
end Go.Proofs.YtbplgbkbggmaeaaGreat

namespace Go.Proofs.YtbplgbkbggmaeaaGreat
open Go.RowKit
section
variable {w : World} {F : Foot} {A : A8} {Y : Y8}
set_option maxRecDepth 100000 in
set_option maxHeartbeats 8000000 in
theorem poPut_ok (h : Pool8 w F A Y) (i : Int) (x : Pag) {k : Nat} {f : Fr8} (hh : holds Y.l i = some k) (hk : Y.l[k]? = some (some f)) (hx : PgOk x.1 x.2) : Calls Tryz.prog 13 #[.pointer (some ⟨A.q, 0, none⟩), .int .i64 i, .agg #[.int .i64 x.1, .string x.2]] w (Out8 w F A (Y.setPg k x) (.int .i64 0)) := by
 have hb := (Below.refl w.heap.size w).alloc (Nat.le_refl _) (.cells #[.int .i64 x.1, .string x.2] 45)
 have X0 := Blk.new w 45 #[.int .i64 x.1, .string x.2]
 have P1 := Lib.hid (h.more hb)
 have HB := Lib.hid hb
 have HXF : Hid (¬ F w.heap.size) := fun e => by have := h.lt _ e; omega
 obtain ⟨c0, c1, c2, c3, c4⟩ := P1.out.isP.cells
 have LK := look_some P1.out.isP.map hh
 have RG := Lib.hid (fun W => pgRight_any x.1 x.2 W true (by simp [hx]))
 have OW := Lib.hid (fun W => poOwn_any x.1 x.2 (by have := hx.2; omega) W)
 have hkl := (List.getElem?_eq_some_iff.1 hk).1
 have hk1 : (k : Int) < Y.l.length := by omega
 have HSP := Lib.hid (setPg_some hk x)
 have HOK := Lib.hid (h.ok.setPg hk (x := x) hx)
 have HU := Lib.hid h.ok.uniq
 have HK := Lib.hid hk
 clear h hb hh hx
 go_enter Tryz.func13, Tryz.ntmps13
 go_upto_region 1 with fail
 change Code.wp _ _ _ _ (w.alloc (.cells #[.int .i64 x.1, .string x.2] 45))
 generalize w.alloc (.cells #[.int .i64 x.1, .string x.2] 45) = w1 at *
 go_wp2_with (refine wpList_load_row rfl 45 _ rfl w.heap.size rfl 45 _ (0, 0) _ X0 Tryz.underlying45 rfl (by kernel_rfl) ?_)
 refine (RG.out _).mono ?_
 rintro e w2 ⟨rfl, hb2⟩
 have P2 := Lib.hid (P1.out.more hb2)
 have HB2 := Lib.hid (below2 HB.out hb2)
 replace X0 := X0.keep hb2 X0.lt
 clear hb2 P1 HB c0 c1 c2 c3 c4 LK RG
 obtain ⟨c0, c1, c2, c3, c4⟩ := P2.out.isP.cells
 go_wp2_with (refine wpList_load_row rfl 45 _ rfl w.heap.size rfl 45 _ (0, 0) _ X0 Tryz.underlying45 rfl (by kernel_rfl) ?_)
 refine (OW.out _).mono ?_
 rintro e w3 ⟨rfl, hb3⟩
 have P3 := Lib.hid (P2.out.more hb3)
 have HB3 := Lib.hid (below2 HB2.out hb3)
 replace X0 := X0.keep hb3 X0.lt
 clear hb3 P2 HB2 c0 c1 c2 c3 c4 OW
 have q3 := P3.out.isP
 obtain ⟨d0, d1, d2, d3, d4, d5⟩ := rowC6 q3.rows HK.out
 have z2 := q3.rows.frozen (k * 6 + 2)
 have z3 := q3.rows.frozen (k * 6 + 3)
 obtain ⟨q4, s4⟩ := q3.put1 HK.out 2 (by omega) (.int .i64 x.1) (some { f with pg := (x.1, f.pg.2) }) rfl (holds_same HU.out HK.out rfl)
 have hk4 : (Y.l.set k (some { f with pg := (x.1, f.pg.2) }))[k]? = some (some { f with pg := (x.1, f.pg.2) }) := by rw [getElem?_set_frs, if_pos rfl, if_pos hkl]
 have hu4 : Uniq (Y.l.set k (some { f with pg := (x.1, f.pg.2) })) := uniq_set HU.out fun j g hj e => (HU.out k j f g HK.out hj e.symm).symm
 obtain ⟨q5, s5⟩ := q4.put1 hk4 3 (by omega) (.string x.2) (some { f with pg := x }) rfl (holds_same hu4 hk4 rfl)
 rw [List.set_set] at q5
 have hu5 : Uniq (Y.l.set k (some { f with pg := x })) := uniq_set HU.out fun j g hj e => (HU.out k j f g HK.out hj e.symm).symm
 have hk5 : (Y.l.set k (some { f with pg := x }))[k]? = some (some { f with pg := x }) := by rw [getElem?_set_frs, if_pos rfl, if_pos hkl]
 have X5 : Blk ((w3.setCell ⟨A.gf, k * 6 + 2, none⟩ (.int .i64 x.1)).setCell ⟨A.gf, k * 6 + 3, none⟩ (.string x.2)) w.heap.size 45 #[.int .i64 x.1, .string x.2] := by
   have hne : w.heap.size ≠ A.gf := fun e => HXF.out (by rw [e]; exact P3.out.ofP (.inr (.inl rfl)))
   exact (X0.far (p := ⟨A.gf, k * 6 + 2, none⟩) hne _).far (p := ⟨A.gf, k * 6 + 3, none⟩) hne _
 go_upto_region 10 with fail
 change Code.wp _ _ _ _ ((w3.setCell ⟨A.gf, k * 6 + 2, none⟩ (.int .i64 x.1)).setCell ⟨A.gf, k * 6 + 3, none⟩ (.string x.2))
 have Q5 := Lib.hid q5
 have S5 := Lib.hid (s4.trans s5)
 have HX5 := Lib.hid X5
 have HU5 := Lib.hid hu5
 have HK5 := Lib.hid hk5
 clear q3 q4 q5 s4 s5 hk4 hu4 hu5 hk5 X0 X5 d0 d1 d2 d3 d4 d5 z2 z3
 generalize (w3.setCell ⟨A.gf, k * 6 + 2, none⟩ (.int .i64 x.1)).setCell ⟨A.gf, k * 6 + 3, none⟩ (.string x.2) = w5 at *
 obtain ⟨d0, d1, d2, d3, d4, d5⟩ := rowC6 Q5.out.rows HK5.out
 simp only at d4 d5
 by_cases hd : f.dirty = true
 · rw [hd] at d4
   have hsp : Y.setPg k x = { Y with l := Y.l.set k (some { f with pg := x }) } := by
     rw [HSP.out, if_pos hd]
     congr 3
     cases f
     simp only at hd
     simp [hd]
   have HSP2 := Lib.hid hsp
   clear hd hsp HSP
   go_wp2
   go_ret
   obtain ⟨k1, k2⟩ := P3.out.onPool Q5.out S5.out (by have := HOK.out; rw [HSP2.out] at this; exact this)
   rw [HSP2.out]
   exact ⟨rfl, F, k1, (Step.ofBelow HB3.out).trans k2⟩
 · have hd' : f.dirty = false := by simpa using hd
   rw [hd'] at d4
   have z4 := Q5.out.rows.frozen (k * 6 + 4)
   have z5 := Q5.out.rows.frozen (k * 6 + 5)
   have x0 := HX5.out.cell 0
   simp at x0
   clear hd
   go_upto_region 11 with fail
   have q6 := put1_same Q5.out.rows HK5.out 4 (by omega) (.bool true) (some { f with pg := x, dirty := true }) rfl
   have u6 := fun c => holds_same HU5.out HK5.out (f' := { f with pg := x, dirty := true }) rfl c
   rw [List.set_set] at q6
   simp only [List.set_set] at u6
   have hk6 : (Y.l.set k (some { f with pg := x, dirty := true }))[k]? = some (some { f with pg := x, dirty := true }) := by rw [getElem?_set_frs, if_pos rfl, if_pos hkl]
   have hu6 : Uniq (Y.l.set k (some { f with pg := x, dirty := true })) := uniq_set HU.out fun j g hj e => (HU.out k j f g HK.out hj e.symm).symm
   have u7 := fun c => holds_same hu6 hk6 (f' := ⟨f.no, x, true, x.1⟩) rfl c
   simp only [List.set_set] at u7
   have U7 : Hid (∀ c, holds (Y.l.set k (some ⟨f.no, x, true, x.1⟩)) c = holds (Y.l.set k (some { f with pg := x })) c) := fun c => (u7 c).trans (u6 c)
   have HK6 := Lib.hid hk6
   have hne : w.heap.size ≠ A.gf := fun e => HXF.out (by rw [e]; exact P3.out.ofP (.inr (.inl rfl)))
   have hR : Hid (∀ W, Spare (· = A.gf) w5.drew W → Blk W w.heap.size 45 #[.int .i64 x.1, .string x.2]) := fun W hW => hW.keep HX5.out.drew hne
   have hsp : Y.setPg k x = { Y with l := Y.l.set k (some ⟨f.no, x, true, x.1⟩) } := by rw [HSP.out, if_neg (by rw [hd']; simp)]
   have HSP2 := Lib.hid hsp
   have HQ := Lib.hid Q5.out
   have HX := Lib.hid (fun W (h : Blk W A.gf 104 (frsA (Y.l.set k (some { f with pg := x })))) => put1_same (w := W) h HK5.out 4 (by omega) (.bool true) (some { f with pg := x, dirty := true }) rfl)
   simp only [List.set_set] at HX
   clear u6 u7 hk6 hu6 hsp q6 z4 z5 d0 d1 d2 d3 d4 d5 hd' x0
   refine' wp_region_late 9 6 (· = A.gf) (fun W => Blk W A.gf 104 (frsA (Y.l.set k (some { f with pg := x })))) (fun W => Blk W A.gf 104 (frsA (Y.l.set k (some { f with pg := x, dirty := true })))) (_ :: _ :: _ :: _ :: _ :: _ :: undef :: _ :: _ :: []) (by kernel_rfl) (by kernel_rfl) (by kernel_rfl) (by kernel_rfl) (by kernel_rfl) rfl HQ.out.rows (fun W W' hb h => h.keep hb h.lt) (fun W W' hb h => h.keep hb h.lt) ?main
   case main =>
     iterate 6
       refine obsT_is (by decide) (fun w4 hE4 => ?_) ?_
       · have y0 := (hR.out w4 hE4).cell 0
         simp at y0
         go_wp2_with fail
         exact postT_is (Below.refl _ _)
       simp only [Act.put, sA, sB, sC]
     refine obsT_store (fun w4 hE4 r4 => ?_) ?_
     · have e4 := (rowC6 r4 HK5.out).2.2.2.2.1
       have z4 := r4.frozen (k * 6 + 4)
       have R5 := HX.out w4 r4
       simp only at e4
       go_wp2
       exact postT_stored (Spare.setCell (S := (· = A.gf)) rfl _) R5
     simp only [Act.put]
     iterate 2
       refine obsT_is (by decide) (fun w4 hE4 => ?_) ?_
       · go_wp2
         exact postT_is (Below.refl _ _)
       simp only [Act.put, sA, sB, sC]
     refine obsT_end fun w6 hE6 r6 => ?_
     have e5 := (rowC6 r6 HK6.out).2.2.2.2.2
     have z5 := r6.frozen (k * 6 + 5)
     have R7 := put1_same r6 HK6.out 5 (by omega) (.int .i64 x.1) (some ⟨f.no, x, true, x.1⟩) rfl
     rw [List.set_set] at R7
     simp only at e5
     have hb6 : ∀ b, b < w5.heap.size → b ≠ A.gf → w6.heap[b]? = w5.heap[b]? := fun b hb hb2 => hE6.block b hb hb2
     have HP7 : Hid (IsP (w6.setCell ⟨A.gf, k * 6 + 5, none⟩ (.int .i64 x.1)) A (Y.l.set k (some ⟨f.no, x, true, x.1⟩)) Y.hand) :=
       ⟨by
         have := HQ.out.head
         rw [List.length_set] at this ⊢
         exact (heap_setCell_other w6 _ _ _ HQ.out.qgf).trans ((hb6 _ HQ.out.head.lt HQ.out.qgf).trans this), R7, (HQ.out.map.keep ((heap_setCell_other w6 _ _ _ HQ.out.gfm.symm).trans (hb6 _ HQ.out.map.lt HQ.out.gfm.symm))).congr fun c => by unfold hm; rw [U7.out c]⟩
     have HS7 : Hid (Step (OfP A) (OfP A) w3 (w6.setCell ⟨A.gf, k * 6 + 5, none⟩ (.int .i64 x.1))) :=
       S5.out.trans (Step.set (F := OfP A) (F' := OfP A) (w := w5) (w' := w6) ⟨hE6.os, hE6.tape, hE6.output, hE6.size, fun b hb hf => hb6 b hb (fun e => hf (.inr (.inl e))), fun b hb => .inl hb⟩ (p := ⟨A.gf, k * 6 + 5, none⟩) (.inr (.inl rfl)) _)
     clear R7 hb6 hE6 r6
     change wpList _ _ _ _ _ _
     go_wp2
     go_ret
     obtain ⟨k1, k2⟩ := P3.out.onPool HP7.out HS7.out (by have := HOK.out; rw [HSP2.out] at this; exact this)
     rw [HSP2.out]
     exact ⟨rfl, F, k1, (Step.ofBelow HB3.out).trans k2⟩
theorem poPut_any (h : Pool8 w F A Y) (i : Int) (x : Pag) : Calls Tryz.prog 13 #[.pointer (some ⟨A.q, 0, none⟩), .int .i64 i, .agg #[.int .i64 x.1, .string x.2]] w (Out8 w F A (Y.putY i x).1 (.int .i64 (Y.putY i x).2)) := by
 unfold Y8.putY
 cases hh : holds Y.l i with
 | none => exact poPut_none h i x hh
 | some k =>
   obtain ⟨f, hk, _⟩ := holds_some hh
   simp only
   by_cases hx : PgOk x.1 x.2
   · rw [if_pos hx]; exact poPut_ok h i x hh hk hx
   · rw [if_neg hx]; exact poPut_form h i x hh hx
end
end Go.Proofs.YtbplgbkbggmaeaaGreat

namespace Go.Proofs.YtbplgbkbggmaeaaGreat
open Go.RowKit
set_option maxRecDepth 100000 in
theorem poNew_frames (s g : Nat) (c : Int) (hc : c < 1 ∨ 8 < c) (w : World) : Calls Tryz.prog 37 #[.pointer (some ⟨s, 0, none⟩), .pointer (some ⟨g, 0, none⟩), .int .i64 c] w fun e w' => e = .returned (.tuple #[.pointer none, .int .i64 1]) ∧ w = w' := by
 by_cases h1 : c < 1
 · have a1 : decide (c < 1) = true := by simp [h1]
   go_enter Tryz.func37, Tryz.ntmps37
   go_wp2
   go_ret2
   exact ⟨rfl, rfl⟩
 · have h8 : 8 < c := by omega
   have a1 : decide (c < 1) = false := by simp [h1]
   have a2 : decide (8 < c) = true := by simp [h8]
   go_enter Tryz.func37, Tryz.ntmps37
   go_wp2
   go_ret2
   exact ⟨rfl, rfl⟩
theorem frsV_none (c : Nat) : frsV (List.replicate c none) = (madeCells #[Value.bool false, .int .i64 0, .int .i64 0, .string ⟨#[]⟩, .bool false, .int .i64 0] (c * 6)).toList := by
 induction c with
 | zero => simp [frsV, madeCells]
 | succ n ih =>
   rw [List.replicate_succ']
   show (List.replicate n none ++ [none]).flatMap frCells = _
   rw [List.flatMap_append, show (List.replicate n none).flatMap frCells = frsV (List.replicate n none) from rfl, ih]
   simp only [madeCells, Array.toList_map, Array.toList_range]
   rw [show (n + 1) * 6 = n * 6 + 1 + 1 + 1 + 1 + 1 + 1 by omega, List.range_succ, List.range_succ, List.range_succ, List.range_succ, List.range_succ, List.range_succ]
   simp only [List.map_append, List.map_cons, List.map_nil, List.append_assoc, List.flatMap_cons, List.flatMap_nil, List.append_nil, frCells]
   congr 1
   have e : ∀ j, (n * 6 + j) % 6 = j % 6 := fun j => by omega
   simp only [List.size_toArray, List.length_cons, List.length_nil, Nat.add_assoc, e, Nat.zero_add]
   simp
theorem info_frame : (Tryz.prog.info? 104).map (fun i => (i.zero, i.size, i.bytes)) = some (some (.agg #[.bool false, .int .i64 0, .int .i64 0, .string ⟨#[]⟩, .bool false, .int .i64 0]), 6, 56) := by kernel_rfl
theorem mkFrames (c : Nat) (hc : c ≤ 8) (W : World) : (Instr.makeSlice 97 (.int .i64 c) (.int .i64 c)).run Tryz.prog W = .ok (.slice (some ⟨W.heap.size, 0, none⟩) c c) (W.alloc (.cells (frsA (List.replicate c none)) 104)) := by
 obtain ⟨i, hi, hz0, hz1, hz2⟩ := info_parts info_frame
 have h := run_make (P := Tryz.prog) W 97 104 i _ Tryz.underlying97 hi hz0 .i64 .i64 c c (by omega) (by omega) (by rw [hz2]; omega) (by omega)
 have e : madeCells (Value.agg #[.bool false, .int .i64 0, .int .i64 0, .string ⟨#[]⟩, .bool false, .int .i64 0]).cells ((c : Int).toNat * i.size) = frsA (List.replicate c none) := by
   rw [hz1]
   apply Array.ext'
   unfold frsA
   rw [frsV_none, Int.toNat_natCast]
   rfl
 rw [e] at h
 simpa using h
section
variable {w : World}
set_option maxRecDepth 100000 in
set_option maxHeartbeats 4000000 in
theorem poNew_ok (s g c : Nat) (h1 : 1 ≤ c) (h8 : c ≤ 8) :
   Calls Tryz.prog 37 #[.pointer (some ⟨s, 0, none⟩), .pointer (some ⟨g, 0, none⟩), .int .i64 c] w fun e w' => e = .returned (.tuple #[.pointer (some ⟨w.heap.size + 1 + 1, 0, none⟩), .int .i64 0]) ∧
     (∀ gd base n, IsP w' ⟨w.heap.size + 1 + 1, w.heap.size, w.heap.size + 1, s, g, gd, base, n⟩ (List.replicate c none) 0) ∧ Below w.heap.size w w' := by
 have MK := mkFrames c h8
 have a1 : decide ((c : Int) < 1) = false := by simp; omega
 have a2 : decide ((8 : Int) < (c : Int)) = false := by simp; omega
 have B := (((Below.refl w.heap.size w).alloc (Nat.le_refl _) (.cells (frsA (List.replicate c none)) 104)).alloc (by simp) (.map #[] 0)).alloc (by simp; omega) (.cells #[.pointer (some ⟨s, 0, none⟩), .pointer (some ⟨g, 0, none⟩), .slice (some ⟨w.heap.size, 0, none⟩) c c, .map (some (w.heap.size + 1)), .int .i64 0] 100)
 have R := ((Blk.new w 104 (frsA (List.replicate c none))).alloc (.map #[] 0)).alloc (.cells #[.pointer (some ⟨s, 0, none⟩), .pointer (some ⟨g, 0, none⟩), .slice (some ⟨w.heap.size, 0, none⟩) c c, .map (some (w.heap.size + 1)), .int .i64 0] 100)
 have M := BMap.made (w.alloc (.cells (frsA (List.replicate c none)) 104))
 have Q := Blk.new ((w.alloc (.cells (frsA (List.replicate c none)) 104)).alloc (.map #[] 0)) 100 #[.pointer (some ⟨s, 0, none⟩), .pointer (some ⟨g, 0, none⟩), .slice (some ⟨w.heap.size, 0, none⟩) c c, .map (some (w.heap.size + 1)), .int .i64 0]
 replace M := M.keep (w' := ((w.alloc (.cells (frsA (List.replicate c none)) 104)).alloc (.map #[] 0)).alloc (.cells #[.pointer (some ⟨s, 0, none⟩), .pointer (some ⟨g, 0, none⟩), .slice (some ⟨w.heap.size, 0, none⟩) c c, .map (some (w.heap.size + 1)), .int .i64 0] 100)) (Below.heap_alloc _ _ _ M.lt)
 simp only [World.size_alloc] at Q M
 have FIN : Hid (∀ gd base n, IsP (((w.alloc (.cells (frsA (List.replicate c none)) 104)).alloc (.map #[] 0)).alloc (.cells #[.pointer (some ⟨s, 0, none⟩), .pointer (some ⟨g, 0, none⟩), .slice (some ⟨w.heap.size, 0, none⟩) c c, .map (some (w.heap.size + 1)), .int .i64 0] 100)) ⟨w.heap.size + 1 + 1, w.heap.size, w.heap.size + 1, s, g, gd, base, n⟩ (List.replicate c none) 0) := fun gd base n =>
   ⟨by rw [List.length_replicate]; exact Q, R, M.congr fun i => by unfold hm; rw [holds_empty]; rfl⟩
 have HB := Lib.hid B
 clear B R M Q h1 h8
 go_enter Tryz.func37, Tryz.ntmps37
 have hmm := @run_makeMap Tryz.prog
 go_wp2
 go_ret2
 exact ⟨rfl, FIN.out, HB.out⟩
end
end Go.Proofs.YtbplgbkbggmaeaaGreat
