/- Texts that belong together, joined: PoD, PoE, PoF. -/
import Derived.Test.YtbplgbkbggmaeaaGreatKpo
namespace Go.Proofs.YtbplgbkbggmaeaaGreat
open Go.RowKit
theorem free_some {l : Frs} {k : Nat} (h : free l = some k) : l[k]? = some none ∧ ∀ j, j < k → ∃ f, l[j]? = some (some f) := by
 unfold free at h
 rw [List.findIdx?_eq_some_iff_getElem] at h
 obtain ⟨hk, h1, h2⟩ := h
 refine ⟨by rw [List.getElem?_eq_getElem hk]; simpa using h1, fun j hj => ?_⟩
 have := h2 j hj
 have hjl : j < l.length := by omega
 rw [List.getElem?_eq_getElem hjl]
 cases hx : l[j] with
 | none => rw [hx] at this; simp at this
 | some f => exact ⟨f, rfl⟩
theorem free_none {l : Frs} (h : free l = none) : ∀ j, j < l.length → ∃ f, l[j]? = some (some f) := by
 unfold free at h
 rw [List.findIdx?_eq_none_iff] at h
 intro j hj
 have := h l[j] (List.getElem_mem hj)
 rw [List.getElem?_eq_getElem hj]
 cases hx : l[j] with
 | none => rw [hx] at this; simp at this
 | some f => exact ⟨f, rfl⟩
namespace Y8
def handOn (Y : Y8) : Y8 := { Y with hand := (Y.hand + 1) % Y.l.length }
def roomY (base : Nat) (Y : Y8) : Y8 × Nat × Nat := match free Y.l with
 | some k => (Y, k, 0)
 | none => match Y.l.getD Y.hand none with
   | some f => if (Y.emptyY base Y.hand f).2 = 0 then ((Y.emptyY base Y.hand f).1.handOn, Y.hand, 0) else ((Y.emptyY base Y.hand f).1, 0, (Y.emptyY base Y.hand f).2)
   | none => (Y, 0, 0)
end Y8
theorem roomY_free {base : Nat} {Y : Y8} {k : Nat} (h : free Y.l = some k) : Y.roomY base = (Y, k, 0) := by unfold Y8.roomY; rw [h]
theorem roomY_full {base : Nat} {Y : Y8} {f : Fr8} (h : free Y.l = none) (hf : Y.l[Y.hand]? = some (some f)) : Y.roomY base = if (Y.emptyY base Y.hand f).2 = 0 then ((Y.emptyY base Y.hand f).1.handOn, Y.hand, 0) else ((Y.emptyY base Y.hand f).1, 0, (Y.emptyY base Y.hand f).2) := by
 unfold Y8.roomY
 rw [h]
 simp only [List.getD_eq_getElem?_getD, hf, Option.getD_some]
theorem Ok8.full {base n : Nat} {Y : Y8} (h : Ok8 base n Y) (hf : free Y.l = none) : ∃ f, Y.l[Y.hand]? = some (some f) := free_none hf _ h.hand
theorem Ok8.room_ {base n : Nat} {Y : Y8} (h : Ok8 base n Y) : Ok8 base n (Y.roomY base).1 ∧ ((Y.roomY base).2.2 = 0 ∨ (Y.roomY base).2.2 = 4) ∧ (Y.roomY base).1.t ≤ Y.t + 1 ∧ ((Y.roomY base).2.2 = 0 → (Y.roomY base).1.l[(Y.roomY base).2.1]? = some none) := by
 cases hf : free Y.l with
 | some k =>
   rw [roomY_free hf]
   exact ⟨h, .inl rfl, by simp, fun _ => (free_some hf).1⟩
 | none =>
   obtain ⟨f, hk⟩ := h.full hf
   rw [roomY_full hf hk]
   obtain ⟨a1, a2, a3, a4, a5⟩ := h.empty hk
   by_cases h0 : (Y.emptyY base Y.hand f).2 = 0
   · rw [if_pos h0]
     rw [if_pos h0] at a5
     have hl : (Y.emptyY base Y.hand f).1.l.length = Y.l.length := by rw [a5]; simp
     refine ⟨a1.setHand (k := ((Y.emptyY base Y.hand f).1.hand + 1) % (Y.emptyY base Y.hand f).1.l.length) (Nat.mod_lt _ (by rw [hl]; exact h.len1)), .inl rfl, a4, fun _ => ?_⟩
     show (Y.emptyY base Y.hand f).1.l[Y.hand]? = _
     rw [a5, getElem?_set_frs, if_pos rfl, if_pos h.hand]
   · rw [if_neg h0]
     exact ⟨a1, a2, a4, fun h => absurd h h0⟩
section
variable {w : World} {F : Foot} {A : A8} {Y : Y8}
set_option maxRecDepth 100000 in
set_option maxHeartbeats 8000000 in
theorem poRoom_free (h : Pool8 w F A Y) {k : Nat} (hf : free Y.l = some k) :
   Calls Tryz.prog 71 #[.pointer (some ⟨A.q, 0, none⟩)] w fun e w' => e = .returned (.tuple #[.int .i64 k, .int .i64 0]) ∧ Below w.heap.size w w' := by
 obtain ⟨c0, c1, c2, c3, c4⟩ := h.isP.cells
 obtain ⟨f1, f2⟩ := free_some hf
 have hkl := (List.getElem?_eq_some_iff.1 f1).1
 have HR : Hid (∀ W, Below w.heap.size w W → Blk W A.gf 104 (frsA Y.l)) := fun W hW => (h.more hW).isP.rows
 have hn8 := h.ok.len8
 have F1 := Lib.hid f1
 have F2 := Lib.hid f2
 clear h hf f1 f2
 have hn : (Y.l.length : Int) ≤ 8 := by omega
 generalize hlen : Y.l.length = n at *
 have HN := Lib.hid hlen
 clear hlen
 go_enter Tryz.func71, Tryz.ntmps71
 go_wp2_with fail
 go_loopw [13] (fun vj wr => ∃ j : Nat, vj = .int .i64 j ∧ j ≤ k ∧ Below w.heap.size w wr) (fun vj _ => n - (intOf vj).toNat)
 case atStart => exact ⟨0, rfl, Nat.zero_le _, Below.refl _ _⟩
 case round =>
   obtain ⟨j, rfl, hjk, hb⟩ := hrel
   have HB := Lib.hid hb
   have hjn : (j : Int) < n := by omega
   clear hb
   have hr := HR.out _ HB.out
   by_cases hlt : j < k
   · obtain ⟨f, hf⟩ := F2.out j hlt
     obtain ⟨d0, d1, d2, d3, d4, d5⟩ := rowC6 hr hf
     have B1 := Lib.hid (HB.out.alloc HB.out.size (.cells #[.bool true, .int .i64 f.no, .int .i64 f.pg.1, .string f.pg.2, .bool f.dirty, .int .i64 f.since] 104))
     clear hr hf
     go_upto_region 4 with fail
     change Code.wp _ _ _ _ (wr.alloc (.cells #[.bool true, .int .i64 f.no, .int .i64 f.pg.1, .string f.pg.2, .bool f.dirty, .int .i64 f.since] 104))
     have x0 := (Blk.new wr 104 #[.bool true, .int .i64 f.no, .int .i64 f.pg.1, .string f.pg.2, .bool f.dirty, .int .i64 f.since]).cell 0
     simp only [List.getElem?_toArray, List.getElem?_cons_zero] at x0
     generalize wr.alloc (.cells #[.bool true, .int .i64 f.no, .int .i64 f.pg.1, .string f.pg.2, .bool f.dirty, .int .i64 f.since] 104) = w1 at *
     generalize wr.heap.size = x at *
     clear d0 d1 d2 d3 d4 d5
     go_wp2
     go_roundw
     case rel => exact ⟨j + 1, by go_num, by omega, B1.out⟩
     case measure => simp [intOf]; omega
   · have hjk' : j = k := by omega
     subst hjk'
     obtain ⟨d0, d1, d2, d3, d4, d5⟩ := rowC0 hr F1.out
     have B1 := Lib.hid (HB.out.alloc HB.out.size (.cells #[.bool false, .int .i64 0, .int .i64 0, .string ⟨#[]⟩, .bool false, .int .i64 0] 104))
     clear hr
     go_upto_region 4 with fail
     change Code.wp _ _ _ _ (wr.alloc (.cells #[.bool false, .int .i64 0, .int .i64 0, .string ⟨#[]⟩, .bool false, .int .i64 0] 104))
     have x0 := (Blk.new wr 104 #[.bool false, .int .i64 0, .int .i64 0, .string ⟨#[]⟩, .bool false, .int .i64 0]).cell 0
     simp only [List.getElem?_toArray, List.getElem?_cons_zero] at x0
     generalize wr.alloc (.cells #[.bool false, .int .i64 0, .int .i64 0, .string ⟨#[]⟩, .bool false, .int .i64 0] 104) = w1 at *
     generalize wr.heap.size = x at *
     clear d0 d1 d2 d3 d4 d5
     go_wp2
     go_ret2
     exact ⟨rfl, B1.out⟩
set_option maxRecDepth 100000 in
set_option maxHeartbeats 8000000 in
theorem poRoom_full (h : Pool8 w F A Y) {f : Fr8} (hf : free Y.l = none) (hk : Y.l[Y.hand]? = some (some f)) (ht : Y.t < 4294967296) :
   Calls Tryz.prog 71 #[.pointer (some ⟨A.q, 0, none⟩)] w (Out8 w F A (Y.roomY A.base).1 (.tuple #[.int .i64 (Y.roomY A.base).2.1, .int .i64 (Y.roomY A.base).2.2])) := by
 obtain ⟨c0, c1, c2, c3, c4⟩ := h.isP.cells
 have HR : Hid (∀ W, Below w.heap.size w W → Blk W A.gf 104 (frsA Y.l)) := fun W hW => (h.more hW).isP.rows
 have HC : Hid (∀ W, Below w.heap.size w W → W.cell? ⟨A.q, 4, none⟩ = some (.int .i64 Y.hand)) := fun W hW => (h.more hW).isP.cells.2.2.2.2
 have CE : Hid (∀ W, Below w.heap.size w W → _) := fun W hW => poEmpty_any (h.more hW) hk ht
 have hn8 := h.ok.len8
 have hhd := h.ok.hand
 have HOK := Lib.hid (h.ok.empty hk)
 have HRM := Lib.hid (roomY_full (base := A.base) hf hk)
 have F2 := Lib.hid (free_none hf)
 clear h hf hk ht
 have hn : (Y.l.length : Int) ≤ 8 := by omega
 have HLEN : Hid (Y.l.length ≤ 8) := hn8
 have HHD : Hid (Y.hand < Y.l.length) := hhd
 generalize hlen : Y.l.length = n at *
 have HN := Lib.hid hlen
 clear hlen hhd
 go_enter Tryz.func71, Tryz.ntmps71
 go_wp2_with fail
 go_loopw [13] (fun vj wr => ∃ j : Nat, vj = .int .i64 j ∧ j ≤ n ∧ Below w.heap.size w wr) (fun vj _ => n - (intOf vj).toNat)
 case atStart => exact ⟨0, rfl, Nat.zero_le _, Below.refl _ _⟩
 case round =>
   obtain ⟨j, rfl, hjn, hb⟩ := hrel
   have HB := Lib.hid hb
   clear hb
   by_cases hlt : j < n
   · have hr := HR.out _ HB.out
     obtain ⟨f, hf⟩ := F2.out j hlt
     have hj1 : (j : Int) < n := by omega
     obtain ⟨d0, d1, d2, d3, d4, d5⟩ := rowC6 hr hf
     have B1 := Lib.hid (HB.out.alloc HB.out.size (.cells #[.bool true, .int .i64 f.no, .int .i64 f.pg.1, .string f.pg.2, .bool f.dirty, .int .i64 f.since] 104))
     clear hr hf
     go_upto_region 4 with fail
     change Code.wp _ _ _ _ (wr.alloc (.cells #[.bool true, .int .i64 f.no, .int .i64 f.pg.1, .string f.pg.2, .bool f.dirty, .int .i64 f.since] 104))
     have x0 := (Blk.new wr 104 #[.bool true, .int .i64 f.no, .int .i64 f.pg.1, .string f.pg.2, .bool f.dirty, .int .i64 f.since]).cell 0
     simp only [List.getElem?_toArray, List.getElem?_cons_zero] at x0
     generalize wr.alloc (.cells #[.bool true, .int .i64 f.no, .int .i64 f.pg.1, .string f.pg.2, .bool f.dirty, .int .i64 f.since] 104) = w1 at *
     generalize wr.heap.size = x at *
     clear d0 d1 d2 d3 d4 d5
     go_wp2
     go_roundw
     case rel => exact ⟨j + 1, by go_num, by omega, B1.out⟩
     case measure => simp [intOf]; omega
   · have hjn' : j = n := by omega
     subst hjn'
     have hb1 : ¬ ((j : Int) < j) := by omega
     have c4' := HC.out _ HB.out
     have CE' := Lib.hid (CE.out _ HB.out)
     have HOK1 := HOK.out
     clear HR HC CE F2
     generalize hZ : Y.emptyY A.base Y.hand f = Z at *
     have HZ := Lib.hid hZ
     clear hZ
     obtain ⟨Y1, er⟩ := Z
     simp only at HOK1
     have HO := Lib.hid HOK1
     clear HOK1 HOK
     go_wp2_with fail
     refine CE'.out.mono ?_
     rintro e w2 ⟨rfl, F2, hp2, hs2⟩
     have P2 := Lib.hid hp2
     have ST2 := Lib.hid ((Step.ofBelow HB.out).trans hs2)
     clear hp2 hs2 CE' c4'
     by_cases h0 : er = 0
     · subst h0
       have hl5 : Y1.l.length = j := by have := HO.out.2.2.2.2; rw [if_pos rfl] at this; rw [this]; simp [HN.out]
       have hh5 : Y1.hand = Y.hand := HO.out.2.2.1
       have hq := P2.out.isP
       obtain ⟨e0, e1, e2, e3, e4⟩ := hq.cells
       rw [hl5] at e2
       have z4 := hq.head.frozen 4
       have hhj : Y.hand < j := HHD.out
       have hj8 : j ≤ 8 := HLEN.out
       have hmod : (Y.hand + 1) % j < j := Nat.mod_lt _ (by omega)
       have hp3 : IsP (w2.setCell ⟨A.q, 4, none⟩ (.int .i64 ((Y.hand + 1) % j : Nat))) A Y1.l ((Y.hand + 1) % j) :=
         ⟨hq.head.set 4 _, hq.rows.far (p := ⟨A.q, 4, none⟩) hq.qgf.symm _, hq.map.keep (heap_setCell_other _ _ _ _ hq.qm.symm)⟩
       obtain ⟨k1, k2⟩ := P2.out.onPool hp3 ((Step.refl _ _).set (p := ⟨A.q, 4, none⟩) (.inl rfl) _) (P2.out.ok.setHand (by rw [hl5]; exact hmod))
       have hcast : (((Y.hand + 1) % j : Nat) : Int) = ((Y.hand : Int) + 1) % (j : Int) := by rw [Int.natCast_emod]; rfl
       rw [hcast] at k1 k2
       have P3 := Lib.hid k1
       have ST3 := Lib.hid (ST2.out.trans k2)
       have hw1 : IntKind.i64.wrap ((Y.hand : Int) + 1) = (Y.hand : Int) + 1 := IntWalk.i64_in _ (by omega)
       have hne : ((j : Int) == 0) = false := by simp; omega
       have HRM2 := HRM.out
       rw [if_pos rfl] at HRM2
       have hrm3 : Y.roomY A.base = ({ Y1 with l := Y1.l, hand := (Y.hand + 1) % j }, Y.hand, 0) := by rw [HRM2]; unfold Y8.handOn; simp only [hl5, hh5]
       have HRM3 := Lib.hid hrm3
       clear hrm3
       have hhn : (Y.hand : Int) ≤ 8 := by omega
       clear hp3 k1 k2 hq P2 ST2 HO HHD HLEN HRM HRM2
       go_wp2_with fail
       go_ret2
       rw [HRM3.out]
       exact ⟨rfl, F2, P3.out, ST3.out⟩
     · have hb : ((er : Int) != 0) = true := by simp [h0]
       have HRM2 := HRM.out
       rw [if_neg h0] at HRM2
       have HRM3 := Lib.hid HRM2
       clear h0 HRM2 HRM
       go_wp2
       go_ret2
       rw [HRM3.out]
       exact ⟨rfl, F2, P2.out, ST2.out⟩
end
end Go.Proofs.YtbplgbkbggmaeaaGreat

namespace Go.Proofs.YtbplgbkbggmaeaaGreat
open Go.RowKit
namespace Y8
def fillY (Y : Y8) (k i : Nat) : Y8 := { Y with l := Y.l.set k (some ⟨i, Y.P i, false, 0⟩) }
def fetchY (base : Nat) (Y : Y8) (i : Nat) : Y8 × Nat :=
 if (Y.roomY base).2.2 = 0 then (if (Y.roomY base).1.D.gone = true then ((Y.roomY base).1, 4) else ((Y.roomY base).1.fillY (Y.roomY base).2.1 i, 0)) else ((Y.roomY base).1, (Y.roomY base).2.2)
end Y8
theorem Ok8.calm {base n : Nat} {Y : Y8} (h : Ok8 base n Y) (hg : Y.D.gone = false) : ∃ σ, Calm7 Y.D base n Y.t Y.P σ := by
 rcases h.alive with ⟨h1, _⟩ | h1
 · rw [h1] at hg; cases hg
 · exact h1
theorem Ok8.right {base n : Nat} {Y : Y8} (h : Ok8 base n Y) (hg : Y.D.gone = false) {i : Nat} (hi : i < n) : (Y.P i).Right := by
 obtain ⟨σ, hc⟩ := h.calm hg
 exact hc.right hi
theorem Ok8.fill {base n : Nat} {Y : Y8} (h : Ok8 base n Y) {k i : Nat} (_ : Y.l[k]? = some none) (hg : Y.D.gone = false) (hi : i < n) (hn : holds Y.l i = none) : Ok8 base n (Y.fillY k i) :=
 h.frame (by simp) (uniq_set h.uniq fun j g hj e => absurd (by rw [e]) (holds_none hn j g hj)) fun j f hj => by
   rw [getElem?_set_frs] at hj
   split at hj
   · split at hj
     · cases hj
       exact ⟨hi, h.right hg hi⟩
     · cases hj
   · exact h.fr j f hj
theorem roomY_holds {base n : Nat} {Y : Y8} (h : Ok8 base n Y) {i : Int} (hn : holds Y.l i = none) : holds (Y.roomY base).1.l i = none := by
 cases hf : free Y.l with
 | some k => rw [roomY_free hf]; exact hn
 | none =>
   obtain ⟨f, hk⟩ := h.full hf
   rw [roomY_full hf hk]
   obtain ⟨a1, a2, a3, a4, a5⟩ := h.empty hk
   by_cases h0 : (Y.emptyY base Y.hand f).2 = 0
   · rw [if_pos h0]
     rw [if_pos h0] at a5
     show holds (Y.emptyY base Y.hand f).1.l i = none
     rw [a5, holds_drop h.uniq hk]
     split
     · rfl
     · exact hn
   · rw [if_neg h0]
     rw [if_neg h0] at a5
     show holds (Y.emptyY base Y.hand f).1.l i = none
     rw [a5]
     exact hn
theorem Ok8.fetch {base n : Nat} {Y : Y8} (h : Ok8 base n Y) {i : Nat} (hi : i < n) (hn : holds Y.l i = none) : Ok8 base n (Y.fetchY base i).1 ∧ ((Y.fetchY base i).2 = 0 ∨ (Y.fetchY base i).2 = 4) ∧ (Y.fetchY base i).1.t ≤ Y.t + 1 := by
 obtain ⟨a1, a2, a3, a4⟩ := h.room_
 unfold Y8.fetchY
 by_cases h0 : (Y.roomY base).2.2 = 0
 · rw [if_pos h0]
   by_cases hg : (Y.roomY base).1.D.gone = true
   · rw [if_pos hg]
     exact ⟨a1, .inr rfl, a3⟩
   · rw [if_neg hg]
     exact ⟨a1.fill (a4 h0) (by simpa using hg) hi (roomY_holds h hn), .inl rfl, a3⟩
 · rw [if_neg h0]
   exact ⟨a1, a2, a3⟩
section
variable {w : World} {F : Foot} {A : A8} {Y : Y8}
theorem p8_pages (h : Pool8 w F A Y) : Calls Tryz.prog 42 #[.pointer (some ⟨A.s, 0, none⟩)] w fun e w' => e = .returned (.int .i64 A.n) ∧ w = w' := by
 obtain ⟨FD, FL, h, rfl⟩ := h
 exact soPages_any h.sto
theorem p8_read (h : Pool8 w F A Y) (hg : Y.D.gone = false) {i : Nat} (hi : i < A.n) (ht : Y.t ≤ 4294967296) : Calls Tryz.prog 29 #[.pointer (some ⟨A.s, 0, none⟩), .int .i64 i] w fun e w' => e = .returned (.tuple #[.agg #[.int .i64 (Y.P i).1, .string (Y.P i).2], .int .i64 0]) ∧ Below w.heap.size w w' := by
 obtain ⟨FD, FL, h, rfl⟩ := h
 obtain ⟨σ, hc⟩ := h.ok.calm hg
 exact soRead_any (t := Y.t) (T := Y.t) ⟨h.sto, hc.lies, hc.tidy, ht⟩ hi (hc.all.homes i hi)
theorem p8_dead (h : Pool8 w F A Y) (hg : Y.D.gone = true) {i : Nat} (hi : i < A.n) : Calls Tryz.prog 29 #[.pointer (some ⟨A.s, 0, none⟩), .int .i64 i] w fun e w' => e = .returned (.tuple #[.agg #[.int .i64 0, .string ⟨#[]⟩], .int .i64 4]) ∧ Below w.heap.size w w' := by
 obtain ⟨FD, FL, h, rfl⟩ := h
 exact soRead_dead h.sto hg hi
theorem p8_range (h : Pool8 w F A Y) {i : Int} (hi : i < 0 ∨ (A.n : Int) ≤ i) : Calls Tryz.prog 29 #[.pointer (some ⟨A.s, 0, none⟩), .int .i64 i] w fun e w' => e = .returned (.tuple #[.agg #[.int .i64 0, .string ⟨#[]⟩], .int .i64 2]) ∧ Below w.heap.size w w' := by
 obtain ⟨FD, FL, h, rfl⟩ := h
 exact soRead_range h.sto i hi
theorem Out8.of (h : Pool8 w F A Y) {w' : World} (hb : Below w.heap.size w w') (v : Value) : Out8 w F A Y v (.returned v) w' := ⟨rfl, F, h.more hb, .ofBelow hb⟩
theorem poRoom_any (h : Pool8 w F A Y) (ht : Y.t < 4294967296) :
   Calls Tryz.prog 71 #[.pointer (some ⟨A.q, 0, none⟩)] w (Out8 w F A (Y.roomY A.base).1 (.tuple #[.int .i64 (Y.roomY A.base).2.1, .int .i64 (Y.roomY A.base).2.2])) := by
 cases hf : free Y.l with
 | some k =>
   rw [roomY_free hf]
   exact (poRoom_free h hf).mono fun _ _ ⟨he, hb⟩ => he ▸ Out8.of h hb _
 | none =>
   obtain ⟨f, hk⟩ := h.ok.full hf
   exact poRoom_full h hf hk ht
set_option maxRecDepth 100000 in
set_option maxHeartbeats 8000000 in
theorem poFetch_any (h : Pool8 w F A Y) {i : Nat} (hi : i < A.n) (hn : holds Y.l i = none) (ht : Y.t < 4294967295) :
   Calls Tryz.prog 43 #[.pointer (some ⟨A.q, 0, none⟩), .int .i64 i] w (Out8 w F A (Y.fetchY A.base i).1 (.int .i64 (Y.fetchY A.base i).2)) := by
 obtain ⟨c0, c1, c2, c3, c4⟩ := h.isP.cells
 have RM := Lib.hid (poRoom_any h (by omega))
 have hrm := h.ok.room_
 have hho := roomY_holds h.ok hn
 have hfin : Y.fetchY A.base i = if (Y.roomY A.base).2.2 = 0 then (if (Y.roomY A.base).1.D.gone = true then ((Y.roomY A.base).1, 4) else ((Y.roomY A.base).1.fillY (Y.roomY A.base).2.1 i, 0)) else ((Y.roomY A.base).1, (Y.roomY A.base).2.2) := rfl
 have HI := Lib.hid hi
 clear h hi hn
 generalize Y.roomY A.base = Z at *
 obtain ⟨Y1, k, er⟩ := Z
 simp only at hrm hho RM hfin
 have HT1 : Hid (Y1.t ≤ 4294967295) := by have := hrm.2.2.1; exact (by omega : Y1.t ≤ 4294967295)
 have HFIN := Lib.hid hfin
 have HHO := Lib.hid hho
 have HRM := Lib.hid hrm
 clear hfin hho hrm ht
 go_enter Tryz.func43, Tryz.ntmps43
 go_wp2_with fail
 refine RM.out.mono ?_
 rintro e w1 ⟨rfl, F1, hp1, hs1⟩
 have P1 := Lib.hid hp1
 have ST1 := Lib.hid hs1
 obtain ⟨c0, c1, c2, c3, c4⟩ := hp1.isP.cells
 clear hp1 hs1 RM
 by_cases h0 : er = 0
 · subst h0
   have hfree : Y1.l[k]? = some none := HRM.out.2.2.2 rfl
   by_cases hg : Y1.D.gone = true
   · have RD := Lib.hid (p8_dead P1.out hg HI.out)
     have HF2 : Hid (Y.fetchY A.base i = (Y1, 4)) := by have := HFIN.out; rw [if_pos rfl, if_pos hg] at this; exact this
     clear HFIN hg
     go_wp2_with fail
     refine RD.out.mono ?_
     rintro e w2 ⟨rfl, hb2⟩
     have HB2 := Lib.hid (hb2.alloc hb2.size (.cells #[.int .i64 0, .string ⟨#[]⟩] 45))
     clear hb2 RD
     go_wp2
     go_ret
     rw [HF2.out]
     exact ⟨rfl, F1, P1.out.more HB2.out, ST1.out.more HB2.out⟩
   · have hg' : Y1.D.gone = false := by simpa using hg
     have RD := Lib.hid (p8_read P1.out hg' HI.out (by have := HT1.out; omega))
     have HF2 : Hid (Y.fetchY A.base i = (Y1.fillY k i, 0)) := by have := HFIN.out; rw [if_pos rfl, if_neg hg] at this; exact this
     have HOK := Lib.hid (HRM.out.1.fill hfree hg' HI.out HHO.out)
     have hkl := (List.getElem?_eq_some_iff.1 hfree).1
     have HPU := Lib.hid (fun c => holds_put HRM.out.1.uniq hkl hfree (f := ⟨i, Y1.P i, false, 0⟩) HHO.out c)
     have HFR := Lib.hid hfree
     clear HFIN hg hg' hfree HRM
     go_wp2_with fail
     refine RD.out.mono ?_
     rintro e w2 ⟨rfl, hb2⟩
     have HB2 := Lib.hid (hb2.alloc hb2.size (.cells #[.int .i64 (Y1.P i).1, .string (Y1.P i).2] 45))
     have B0 := Lib.hid (Blk.new w2 45 #[.int .i64 (Y1.P i).1, .string (Y1.P i).2])
     clear hb2 RD
     go_upto_region 7 with fail
     change Code.wp _ _ _ _ (w2.alloc (.cells #[.int .i64 (Y1.P i).1, .string (Y1.P i).2] 45))
     have P3 := Lib.hid (P1.out.more HB2.out)
     have ST3 := Lib.hid (ST1.out.more HB2.out)
     clear ST1 P1 HB2
     generalize w2.alloc (.cells #[.int .i64 (Y1.P i).1, .string (Y1.P i).2] 45) = w3 at *
     generalize w2.heap.size = x at *
     have hq := P3.out.isP
     obtain ⟨e0, e1, e2, e3, e4⟩ := hq.cells
     have b0 := B0.out.cell 0
     have b1 := B0.out.cell 1
     simp at b0 b1
     have hkl := (List.getElem?_eq_some_iff.1 HFR.out).1
     have hk1 : (k : Int) < Y1.l.length := by omega
     clear c0 c1 c2 c3 c4
     go_wp2_with fail
     go_still_tail 9, (by kernel_rfl)
     change wpList _ _ _ _ _ w3.drew
     have P4 := Lib.hid (P3.out.more (w' := w3.drew) (Below.refl _ _).drew)
     have ST4 := Lib.hid (ST3.out.more (w'' := w3.drew) (Below.refl _ _).drew)
     clear P3 ST3 hq e0 e1 e2 e3 e4 b0 b1 B0
     generalize w3.drew = w4 at *
     have hq := P4.out.isP
     obtain ⟨g0, g1, g2, g3, g4, g5⟩ := rowC0 hq.rows HFR.out
     have e3 := hq.cells.2.2.2.1
     have z0 := hq.rows.frozen (k * 6)
     have z1 := hq.rows.frozen (k * 6 + 1)
     have z2 := hq.rows.frozen (k * 6 + 2)
     have z3 := hq.rows.frozen (k * 6 + 3)
     have z4 := hq.rows.frozen (k * 6 + 4)
     have z5 := hq.rows.frozen (k * 6 + 5)
     have r5 := put6_same hq.rows hkl (some ⟨i, Y1.P i, false, 0⟩)
     have hh5 : Blk (World.put6 w4 A.gf k (frCells (some ⟨i, Y1.P i, false, 0⟩))) A.q 100 (poolCells A Y1.l.length Y1.hand) := (put6_other w4 A.gf k _ hq.qgf).trans hq.head
     have hm5 : BMap (World.put6 w4 A.gf k (frCells (some ⟨i, Y1.P i, false, 0⟩))) A.m (hm Y1.l) := hq.map.keep (put6_other w4 A.gf k _ hq.gfm.symm)
     obtain ⟨w5, hput, hmap, hoth, hst⟩ := put8 hm5 (i : Int) (.int .i64 k)
     have hs5 : Step (OfP A) (OfP A) w4 w5 := (put6_step w4 k _ (.inr (.inl rfl))).trans (hst _ (.inr (.inr rfl)))
     have hp5 : IsP w5 A (Y1.l.set k (some ⟨i, Y1.P i, false, 0⟩)) Y1.hand :=
       ⟨by rw [List.length_set]; exact (hoth _ hq.qm).trans hh5, (hoth _ hq.gfm).trans r5, hmap.congr fun c => by
         unfold hm
         rw [HPU.out c]
         split <;> rfl⟩
     obtain ⟨k1, k2⟩ := P4.out.onPool hp5 hs5 HOK.out
     have P5 := Lib.hid k1
     have ST5 := Lib.hid (ST4.out.trans k2)
     have f3 : (World.put6 w4 A.gf k (frCells (some ⟨i, Y1.P i, false, 0⟩))).cell? ⟨A.q, 3, none⟩ = some (.map (some A.m)) := hh5.cell 3
     clear hp5 hs5 k1 k2 hmap hoth hst hm5 hh5 r5 hq HPU HOK
     unfold World.put6 frCells at hput f3
     simp only [List.getD_eq_getElem?_getD, List.getElem?_cons_zero, List.getElem?_cons_succ, Option.getD_some] at hput f3
     go_wp2_with fail
     go_ret
     rw [HF2.out]
     exact ⟨rfl, F1, P5.out, ST5.out⟩
 · have hb : ((er : Int) != 0) = true := by simp [h0]
   have HF2 : Hid (Y.fetchY A.base i = (Y1, er)) := by have := HFIN.out; rw [if_neg h0] at this; exact this
   clear h0 HFIN
   go_wp2
   go_ret
   rw [HF2.out]
   exact ⟨rfl, F1, P1.out, ST1.out⟩
end
end Go.Proofs.YtbplgbkbggmaeaaGreat

namespace Go.Proofs.YtbplgbkbggmaeaaGreat
open Go.RowKit
def noPg : Pag := (0, ⟨#[]⟩)
def pageAt (l : Frs) (k : Nat) : Pag := ((l.getD k none).map (·.pg)).getD noPg
theorem pageAt_some {l : Frs} {k : Nat} {f : Fr8} (h : l[k]? = some (some f)) : pageAt l k = f.pg := by unfold pageAt; simp [List.getD_eq_getElem?_getD, h]
namespace Y8
def getY (base n : Nat) (Y : Y8) (i : Int) : Y8 × Pag × Nat :=
 if 0 ≤ i ∧ i < n then match holds Y.l i with
   | some k => (Y, pageAt Y.l k, 0)
   | none => if (Y.fetchY base i.toNat).2 = 0 then ((Y.fetchY base i.toNat).1, (Y.fetchY base i.toNat).1.P i.toNat, 0) else ((Y.fetchY base i.toNat).1, noPg, (Y.fetchY base i.toNat).2)
 else (Y, noPg, 2)
def peekY (n : Nat) (Y : Y8) (i : Int) : Pag × Nat := match holds Y.l i with
 | some k => (pageAt Y.l k, 0)
 | none => if 0 ≤ i ∧ i < n then (if Y.D.gone = true then (noPg, 4) else (Y.P i.toNat, 0)) else (noPg, 2)
def readY (n : Nat) (Y : Y8) (i : Int) : Pag × Nat := if 0 ≤ i ∧ i < n then (if Y.D.gone = true then (noPg, 4) else (Y.P i.toNat, 0)) else (noPg, 2)
end Y8
theorem Ok8.held_lt {base n : Nat} {Y : Y8} (h : Ok8 base n Y) {i : Int} {k : Nat} (hh : holds Y.l i = some k) : 0 ≤ i ∧ i < n := by
 obtain ⟨f, hf, hi⟩ := holds_some hh
 have := (h.fr k f hf).1
 omega
theorem fetch_held {base n : Nat} {Y : Y8} (h : Ok8 base n Y) {i : Nat} (hn : holds Y.l i = none) (h0 : (Y.fetchY base i).2 = 0) : ∃ k, holds (Y.fetchY base i).1.l i = some k ∧ (Y.fetchY base i).1.l[k]? = some (some ⟨i, (Y.fetchY base i).1.P i, false, 0⟩) := by
 obtain ⟨a1, a2, a3, a4⟩ := h.room_
 have hho := roomY_holds h hn
 unfold Y8.fetchY at h0 ⊢
 by_cases hr : (Y.roomY base).2.2 = 0
 · rw [if_pos hr] at h0 ⊢
   by_cases hg : (Y.roomY base).1.D.gone = true
   · rw [if_pos hg] at h0; cases h0
   · rw [if_neg hg]
     have hk := a4 hr
     have hkl := (List.getElem?_eq_some_iff.1 hk).1
     refine ⟨(Y.roomY base).2.1, ?_, ?_⟩
     · show holds ((Y.roomY base).1.l.set _ _) _ = _
       rw [holds_put a1.uniq hkl hk (f := ⟨i, (Y.roomY base).1.P i, false, 0⟩) hho, if_pos rfl]
     · show ((Y.roomY base).1.l.set _ _)[_]? = _
       rw [getElem?_set_frs, if_pos rfl, if_pos hkl]
       rfl
 · rw [if_neg hr] at h0
   exact absurd h0 hr
theorem Ok8.get {base n : Nat} {Y : Y8} (h : Ok8 base n Y) (i : Int) : Ok8 base n (Y.getY base n i).1 ∧ ((Y.getY base n i).2.2 = 0 ∨ (Y.getY base n i).2.2 = 2 ∨ (Y.getY base n i).2.2 = 4) ∧ (Y.getY base n i).1.t ≤ Y.t + 1 := by
 unfold Y8.getY
 by_cases hi : 0 ≤ i ∧ i < n
 · rw [if_pos hi]
   cases hh : holds Y.l i with
   | some k => exact ⟨h, .inl rfl, by simp⟩
   | none =>
     have hti : ((i.toNat : Nat) : Int) = i := by omega
     obtain ⟨a1, a2, a3⟩ := h.fetch (i := i.toNat) (by omega) (by rw [hti]; exact hh)
     simp only
     by_cases h0 : (Y.fetchY base i.toNat).2 = 0
     · rw [if_pos h0]; exact ⟨a1, .inl rfl, a3⟩
     · rw [if_neg h0]; exact ⟨a1, .inr (.inr (a2.resolve_left h0)), a3⟩
 · rw [if_neg hi]; exact ⟨h, .inr (.inl rfl), by simp⟩
section
variable {w : World} {F : Foot} {A : A8} {Y : Y8}
def pgOut (p : Pag) (e : Nat) : Value := .tuple #[.agg #[.int .i64 p.1, .string p.2], .int .i64 e]
theorem held_own (h : Pool8 w F A Y) {k : Nat} {f : Fr8} (hk : Y.l[k]? = some (some f)) : f.pg.2.size ≤ 500 := by
 have := (h.ok.fr k f hk).2.2
 omega
set_option maxRecDepth 100000 in
set_option maxHeartbeats 8000000 in
theorem poGet_range (h : Pool8 w F A Y) (i : Int) (hi : ¬ (0 ≤ i ∧ i < A.n)) : Calls Tryz.prog 11 #[.pointer (some ⟨A.q, 0, none⟩), .int .i64 i] w fun e w' => e = .returned (pgOut noPg 2) ∧ Below w.heap.size w w' := by
 have R0 := Blk.new w 45 #[.int .i64 0, .string ⟨#[]⟩]
 have hb := (Below.refl w.heap.size w).alloc (Nat.le_refl _) (.cells #[.int .i64 0, .string ⟨#[]⟩] 45)
 have P1 := Lib.hid (h.more hb)
 have HB := Lib.hid hb
 obtain ⟨c0, c1, c2, c3, c4⟩ := P1.out.isP.cells
 have PG := Lib.hid (p8_pages P1.out)
 clear h hb
 unfold pgOut noPg
 go_enter Tryz.func11, Tryz.ntmps11
 go_upto_region 1 with fail
 change Code.wp _ _ _ _ (w.alloc (.cells #[.int .i64 0, .string ⟨#[]⟩] 45))
 generalize w.alloc (.cells #[.int .i64 0, .string ⟨#[]⟩] 45) = w1 at *
 by_cases h0 : i < 0
 · have hd : decide (i < 0) = true := by simp [h0]
   go_wp2_with (refine wpList_store_row rfl 45 _ _ rfl w.heap.size _ rfl rfl 45 _ R0 (by kernel_rfl) (by simp) (by simp [Value.oneCell']) ?_)
   exact bodyPost_ret (results_row_tmp rfl _ _ w.heap.size 45 _ _ rfl (R0.setRow _) Tryz.underlying45 rfl (by kernel_rfl)) rfl ⟨rfl, below_setRow HB.out (Nat.le_refl _) _⟩
 · have hd : decide (i < 0) = false := by simp [h0]
   have hd2 : decide ((A.n : Int) ≤ i) = true := by simp; omega
   go_wp2_with (first
     | (go_at_call 42; refine PG.out.mono ?_; rintro e w5 ⟨rfl, rfl⟩)
     | (refine wpList_store_row rfl 45 _ _ rfl w.heap.size _ rfl rfl 45 _ R0 (by kernel_rfl) (by simp) (by simp [Value.oneCell']) ?_))
   exact bodyPost_ret (results_row_tmp rfl _ _ w.heap.size 45 _ _ rfl (R0.setRow _) Tryz.underlying45 rfl (by kernel_rfl)) rfl ⟨rfl, below_setRow HB.out (Nat.le_refl _) _⟩
set_option maxRecDepth 100000 in
set_option maxHeartbeats 8000000 in
theorem poGet_held (h : Pool8 w F A Y) (i : Nat) (hi : i < A.n) {k : Nat} {f : Fr8} (hh : holds Y.l i = some k) (hk : Y.l[k]? = some (some f)) : Calls Tryz.prog 11 #[.pointer (some ⟨A.q, 0, none⟩), .int .i64 i] w fun e w' => e = .returned (pgOut f.pg 0) ∧ Below w.heap.size w w' := by
 have R0 := Blk.new w 45 #[.int .i64 0, .string ⟨#[]⟩]
 have hb := (Below.refl w.heap.size w).alloc (Nat.le_refl _) (.cells #[.int .i64 0, .string ⟨#[]⟩] 45)
 have P1 := Lib.hid (h.more hb)
 have HB := Lib.hid hb
 have OWN := Lib.hid (fun W => poOwn_any f.pg.1 f.pg.2 (held_own h hk) W)
 obtain ⟨c0, c1, c2, c3, c4⟩ := P1.out.isP.cells
 have PG := Lib.hid (p8_pages P1.out)
 have LK := look_some P1.out.isP.map hh
 clear h hb
 unfold pgOut
 go_enter Tryz.func11, Tryz.ntmps11
 go_upto_region 1 with fail
 change Code.wp _ _ _ _ (w.alloc (.cells #[.int .i64 0, .string ⟨#[]⟩] 45))
 generalize w.alloc (.cells #[.int .i64 0, .string ⟨#[]⟩] 45) = w1 at *
 have hd : decide ((i : Int) < 0) = false := by simp
 have hd2 : decide (A.n ≤ i) = false := by simp; omega
 have HH := Lib.hid hh
 have HK := Lib.hid hk
 clear hh hk hi
 go_upto_region 10 with (go_at_call 42; refine PG.out.mono ?_; rintro e w5 ⟨rfl, rfl⟩)
 clear c0 c1 c2 c3 c4 LK PG
 have C : Hid (∀ V, Below w1.heap.size w1 V → Pool8 V F A Y) := fun V hV => P1.out.more hV
 have hkl := (List.getElem?_eq_some_iff.1 HK.out).1
 have hk1 : (k : Int) < Y.l.length := by omega
 refine' wp_region_conf 14 (.is _ :: .is _ :: .is _ :: .is _ :: .is _ :: .is _ :: .is _ :: .is _ :: .is _ :: .is _ :: .is _ :: .is _ :: .is _ :: .is _ :: []) (by kernel_rfl) (by kernel_rfl) (by kernel_rfl) (by kernel_rfl) rfl ?main
 case main =>
   iterate 14
     refine obs_is (fun w4 hE4 _ => ?_) ?_
     · have hb4 := (Below.refl w1.heap.size w1).drew.trans hE4
       have q4 := (C.out w4 hb4).isP
       obtain ⟨c0, c1, c2, c3, c4⟩ := q4.cells
       obtain ⟨d0, d1, d2, d3, d4, d5⟩ := rowC6 q4.rows HK.out
       have LK := look_some1 q4.map HH.out
       clear q4 hE4
       go_wp2_with (go_at_call 44; refine (OWN.out _).mono ?_; rintro e w5 ⟨rfl, hb5⟩)
       first | exact post_is hb5 | exact post_is (Below.refl _ _)
     simp only [Act.put, sA, sB, sC]
   refine obs_end fun w3 hE3 _ => ?_
   have B3 := (Below.refl w1.heap.size w1).drew.trans hE3
   have R3 := R0.keep B3 R0.lt
   have HB3 := Lib.hid B3
   clear hE3 R0 C B3
   change wpList _ _ _ _ _ _
   go_wp2_with (refine wpList_store_row rfl 45 _ _ rfl w.heap.size _ rfl rfl 45 _ R3 (by kernel_rfl) (by simp) (by simp [Value.oneCell']) ?_)
   exact bodyPost_ret (results_row_tmp rfl _ _ w.heap.size 45 _ _ rfl (R3.setRow _) Tryz.underlying45 rfl (by kernel_rfl)) rfl ⟨rfl, below_setRow (below2 HB.out HB3.out) (Nat.le_refl _) _⟩
end
theorem Pool8.far {w : World} {F : Foot} {A : A8} {Y : Y8} (h : Pool8 w F A Y) {g : Nat} (hg : ¬ F g) (cs : Array Value) : Pool8 (w.setRow g cs) F A Y := by
 obtain ⟨FD, FL, h, rfl⟩ := h
 have hk : ∀ b, F8 FD FL A b → (w.setRow g cs).heap[b]? = w.heap[b]? := fun b hb => setRow_other w g b cs fun e => hg (e ▸ hb)
 have hs : w.heap.size ≤ (w.setRow g cs).heap.size := by simp [World.setRow]
 exact ⟨FD, FL, ⟨⟨h.sto.disk.keep (fun b hb => hk b (.inl (.inl hb))) hs, (hk _ (.inl (.inr rfl))).trans h.sto.head, h.sto.apart, h.sto.b5, h.sto.n8⟩, ⟨h.log.1, h.log.2.elim fun vb r => ⟨vb, r.keep (fun b hb => hk b (.inr (.inl hb))) hs⟩⟩, h.pool.keep fun b hb => hk b (.inr (.inr hb)), h.dl, h.ls, h.pd, h.ok⟩, rfl⟩
theorem Step.farRow {F F' : Foot} {w w' : World} (h : Step F F' w w') {g : Nat} (_ : ¬ F g) (hg : w.heap.size ≤ g) (cs : Array Value) : Step F F' w (w'.setRow g cs) :=
 ⟨h.os, h.tape, h.output, Nat.le_trans h.size (by simp [World.setRow]), fun b hb hf => (setRow_other w' g b cs (by omega)).trans (h.block b hb hf), h.foot⟩
section
variable {w : World} {F : Foot} {A : A8} {Y : Y8}
set_option maxRecDepth 100000 in
set_option maxHeartbeats 8000000 in
theorem poGet_fetch (h : Pool8 w F A Y) (i : Nat) (hi : i < A.n) (hh : holds Y.l i = none) (ht : Y.t < 4294967295) : Calls Tryz.prog 11 #[.pointer (some ⟨A.q, 0, none⟩), .int .i64 i] w (Out8 w F A (Y.getY A.base A.n i).1 (pgOut (Y.getY A.base A.n i).2.1 (Y.getY A.base A.n i).2.2)) := by
 have R0 := Blk.new w 45 #[.int .i64 0, .string ⟨#[]⟩]
 have hb := (Below.refl w.heap.size w).alloc (Nat.le_refl _) (.cells #[.int .i64 0, .string ⟨#[]⟩] 45)
 have P1 := Lib.hid (h.more hb)
 have HX : Hid (¬ F w.heap.size) := fun e => by have := h.lt _ e; omega
 have HB := Lib.hid hb
 obtain ⟨c0, c1, c2, c3, c4⟩ := P1.out.isP.cells
 have PG := Lib.hid (p8_pages P1.out)
 have LK := look_none P1.out.isP.map hh
 have FE := Lib.hid (poFetch_any P1.out hi hh ht)
 have hfh := fun h0 => fetch_held h.ok hh (i := i) h0
 have hok := h.ok.fetch hi hh
 have hG : Y.getY A.base A.n i = if (Y.fetchY A.base i).2 = 0 then ((Y.fetchY A.base i).1, (Y.fetchY A.base i).1.P i, 0) else ((Y.fetchY A.base i).1, noPg, (Y.fetchY A.base i).2) := by
   unfold Y8.getY
   rw [if_pos ⟨by omega, by omega⟩, hh]
   rfl
 clear h hb
 unfold pgOut
 go_enter Tryz.func11, Tryz.ntmps11
 go_upto_region 1 with fail
 change Code.wp _ _ _ _ (w.alloc (.cells #[.int .i64 0, .string ⟨#[]⟩] 45))
 have ST0 : Hid (Step F F w (w.alloc (.cells #[.int .i64 0, .string ⟨#[]⟩] 45))) := Step.ofBelow HB.out
 generalize w.alloc (.cells #[.int .i64 0, .string ⟨#[]⟩] 45) = w1 at *
 have hd : decide ((i : Int) < 0) = false := by simp
 have hd2 : decide (A.n ≤ i) = false := by simp; omega
 have HG := Lib.hid hG
 have HFH := Lib.hid hfh
 have HOK := Lib.hid hok
 have HI := Lib.hid hi
 clear hh hi hG hfh hok ht
 generalize Y.fetchY A.base i = Z at *
 obtain ⟨Y1, er⟩ := Z
 simp only at FE
 go_wp2_with (go_at_call 42; refine PG.out.mono ?_; rintro e w5 ⟨rfl, rfl⟩)
 refine FE.out.mono ?_
 rintro e w2 ⟨rfl, F2, hp2, hs2⟩
 have HP2 := Lib.hid hp2
 have ST2 := Lib.hid (ST0.out.trans hs2)
 have HX2 : Hid (¬ F2 w.heap.size) := fun e => (hs2.foot _ e).elim HX.out fun e => by have := R0.lt; omega
 replace R0 := (hs2.block _ R0.lt HX.out).trans R0
 clear c0 c1 c2 c3 c4 LK PG FE hp2 hs2 P1 HB ST0
 by_cases h0 : er = 0
 · subst h0
   have hz := HG.out
   rw [if_pos rfl] at hz
   have HZ := Lib.hid hz
   obtain ⟨k, hk1, hk2⟩ := HFH.out rfl
   have HH := Lib.hid hk1
   have HK := Lib.hid hk2
   have P1 := HP2
   have OWN := Lib.hid (fun W => poOwn_any (Y1.P i).1 (Y1.P i).2 (held_own HP2.out HK.out) W)
   clear hz hk1 hk2 HFH HG
   replace R0 : Blk w2 w.heap.size 45 #[.int .i64 0, .string ⟨#[]⟩] := R0
   go_upto_region 10 with fail
   have C : Hid (∀ V, Below w2.heap.size w2 V → Pool8 V F2 A Y1) := fun V hV => P1.out.more hV
   have hkl := (List.getElem?_eq_some_iff.1 HK.out).1
   have hk1 : (k : Int) < Y1.l.length := by omega
   refine' wp_region_conf 14 (.is _ :: .is _ :: .is _ :: .is _ :: .is _ :: .is _ :: .is _ :: .is _ :: .is _ :: .is _ :: .is _ :: .is _ :: .is _ :: .is _ :: []) (by kernel_rfl) (by kernel_rfl) (by kernel_rfl) (by kernel_rfl) rfl ?main
   case main =>
     iterate 14
       refine obs_is (fun w4 hE4 _ => ?_) ?_
       · have hb4 := (Below.refl w2.heap.size w2).drew.trans hE4
         have q4 := (C.out w4 hb4).isP
         obtain ⟨c0, c1, c2, c3, c4⟩ := q4.cells
         obtain ⟨d0, d1, d2, d3, d4, d5⟩ := rowC6 q4.rows HK.out
         have LK := look_some1 q4.map HH.out
         clear q4 hE4
         go_wp2_with (go_at_call 44; refine (OWN.out _).mono ?_; rintro e w5 ⟨rfl, hb5⟩)
         first | exact post_is hb5 | exact post_is (Below.refl _ _)
       simp only [Act.put, sA, sB, sC]
     refine obs_end fun w3 hE3 _ => ?_
     have B3 := (Below.refl w2.heap.size w2).drew.trans hE3
     have R3 := R0.keep B3 R0.lt
     have HB3 := Lib.hid B3
     clear hE3 R0 C B3
     change wpList _ _ _ _ _ _
     go_wp2_with (refine wpList_store_row rfl 45 _ _ rfl w.heap.size _ rfl rfl 45 _ R3 (by kernel_rfl) (by simp) (by simp [Value.oneCell']) ?_)
     rw [HZ.out]
     exact bodyPost_ret (results_row_tmp rfl _ _ w.heap.size 45 _ _ rfl (R3.setRow _) Tryz.underlying45 rfl (by kernel_rfl)) rfl ⟨rfl, F2, (HP2.out.more HB3.out).far HX2.out _, (ST2.out.more HB3.out).farRow HX.out (Nat.le_refl _) _⟩
 · have hb : ((er : Int) != 0) = true := by simp [h0]
   have hz := HG.out
   rw [if_neg h0] at hz
   have HZ := Lib.hid hz
   clear hz h0 HG HFH
   replace R0 : Blk w2 w.heap.size 45 #[.int .i64 0, .string ⟨#[]⟩] := R0
   go_wp2_with (refine wpList_store_row rfl 45 _ _ rfl w.heap.size _ rfl rfl 45 _ R0 (by kernel_rfl) (by simp) (by simp [Value.oneCell']) ?_)
   rw [HZ.out]
   exact bodyPost_ret (results_row_tmp rfl _ _ w.heap.size 45 _ _ rfl (R0.setRow _) Tryz.underlying45 rfl (by kernel_rfl)) rfl ⟨rfl, F2, HP2.out.far HX2.out _, ST2.out.farRow HX.out (Nat.le_refl _) _⟩
theorem poGet_any (h : Pool8 w F A Y) (i : Int) (ht : Y.t < 4294967295) : Calls Tryz.prog 11 #[.pointer (some ⟨A.q, 0, none⟩), .int .i64 i] w (Out8 w F A (Y.getY A.base A.n i).1 (pgOut (Y.getY A.base A.n i).2.1 (Y.getY A.base A.n i).2.2)) := by
 by_cases hi : 0 ≤ i ∧ i < A.n
 · obtain ⟨j, rfl⟩ := Int.eq_ofNat_of_zero_le hi.1
   cases hh : holds Y.l (j : Int) with
   | none => exact poGet_fetch h j (by omega) hh ht
   | some k =>
     obtain ⟨f, hk, _⟩ := holds_some hh
     have e : Y.getY A.base A.n j = (Y, f.pg, 0) := by
       unfold Y8.getY
       rw [if_pos hi, hh]
       simp only [pageAt_some hk]
     rw [e]
     exact (poGet_held h j (by omega) hh hk).mono fun _ _ ⟨he, hb⟩ => he ▸ Out8.of h hb _
 · have e : Y.getY A.base A.n i = (Y, noPg, 2) := by unfold Y8.getY; rw [if_neg hi]
   rw [e]
   exact (poGet_range h i hi).mono fun _ _ ⟨he, hb⟩ => he ▸ Out8.of h hb _
end
end Go.Proofs.YtbplgbkbggmaeaaGreat
