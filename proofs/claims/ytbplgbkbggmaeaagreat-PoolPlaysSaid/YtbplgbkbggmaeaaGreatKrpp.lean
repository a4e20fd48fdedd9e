/- Texts that belong together, joined: RpP, RpQ. -/
import Derived.Test.YtbplgbkbggmaeaaGreatKrpn
namespace Go.Proofs.YtbplgbkbggmaeaaGreat
open Go.RowKit
section
variable {w : World} {F : Foot} {A : A9} {Y : Y8}
theorem p9_read (h : Pool9 w F A Y) (hg : Y.D.gone = false) {i : Nat} (hi : i < A.n) (ht : Y.t ≤ 4294967296) : Calls Tryz.prog 30 #[.pointer (some ⟨A.s, 0, none⟩), .int .i64 i] w fun e w' => e = .returned (.tuple #[.agg #[.int .i64 (Y.P i).1, .string (Y.P i).2], .int .i64 0]) ∧ Below w.heap.size w w' := by
 obtain ⟨FD, FL, h, rfl⟩ := h
 obtain ⟨σ, hc⟩ := h.ok.calm hg
 have hs : Stands7r w FD A.s A.gd Y.D A.base A.n Y.t Y.t σ := ⟨h.sto, hc.lies, hc.tidy, ht⟩
 rcases hc.all.homes i hi with ⟨h3, h4, e⟩ | ⟨hp, e, h3, h4⟩
 · rw [e]
   exact rpRead_zero hs hi h3 h4
 · exact rpRead_some hs hi hp h3 h4
theorem p9_dead (h : Pool9 w F A Y) (hg : Y.D.gone = true) {i : Nat} (hi : i < A.n) : Calls Tryz.prog 30 #[.pointer (some ⟨A.s, 0, none⟩), .int .i64 i] w fun e w' => e = .returned (.tuple #[.agg #[.int .i64 0, .string ⟨#[]⟩], .int .i64 4]) ∧ Below w.heap.size w w' := by
 obtain ⟨FD, FL, h, rfl⟩ := h
 exact rpRead_dead h.sto hg hi
theorem p9_readAny (h : Pool9 w F A Y) (i : Int) (ht : Y.t ≤ 4294967296) : Calls Tryz.prog 30 #[.pointer (some ⟨A.s, 0, none⟩), .int .i64 i] w fun e w' => e = .returned (pgOut (Y.readY A.n i).1 (Y.readY A.n i).2) ∧ Below w.heap.size w w' := by
 unfold Y8.readY
 by_cases hi : 0 ≤ i ∧ i < A.n
 · rw [if_pos hi]
   obtain ⟨I, rfl⟩ := Int.eq_ofNat_of_zero_le hi.1
   by_cases hg : Y.D.gone = true
   · rw [if_pos hg]
     exact p9_dead h hg (by omega)
   · rw [if_neg hg]
     exact p9_read h (by simpa using hg) (by omega) ht
 · rw [if_neg hi]
   obtain ⟨FD, FL, h, rfl⟩ := h
   exact rpRead_range h.sto i (by omega)
theorem Pool9.store_n (h : Pool9 w F A Y) : w.cell? ⟨A.s, 2, none⟩ = some (.int .i64 A.n) := by
 obtain ⟨FD, FL, h, rfl⟩ := h
 exact h.sto.cells.2.2.1
theorem Pool9.far (h : Pool9 w F A Y) {g : Nat} (hg : ¬ F g) (cs : Array Value) : Pool9 (w.setRow g cs) F A Y := by
 obtain ⟨FD, FL, h, rfl⟩ := h
 have hk : ∀ b, F9 FD FL A b → (w.setRow g cs).heap[b]? = w.heap[b]? := fun b hb => setRow_other w g b cs fun e => hg (e ▸ hb)
 have hs : w.heap.size ≤ (w.setRow g cs).heap.size := by simp [World.setRow]
 exact ⟨FD, FL, ⟨⟨h.sto.disk.keep (fun b hb => hk b (.inl (.inl hb))) hs, h.sto.ok, (hk _ (.inl (.inr rfl))).trans h.sto.head, h.sto.apart, h.sto.b5, h.sto.n8⟩, h.log.keep (fun b hb => hk b (.inr (.inl hb))) hs, h.pool.keep fun b hb => hk b (.inr (.inr hb)), h.dl, h.ls, h.pd, h.ok⟩, rfl⟩
def GetAt (A : A9) (Y : Y8) (i k : Nat) (Y1 : Y8) : Prop := (Y1.D.gone = true → Y.getY A.base A.n i = (Y1, noPg, 4)) ∧ (Y1.D.gone = false → Y.getY A.base A.n i = (Y1.fillY k i, Y1.P i, 0))
theorem getAt_of {i k : Nat} {Y1 : Y8} (hi : i < A.n) (hh : holds Y.l (i : Int) = none) (hr : Y.roomY A.base = (Y1, k, 0)) : GetAt A Y i k Y1 := by
 unfold GetAt Y8.getY
 rw [if_pos ⟨by omega, by omega⟩, hh]
 simp only [Int.toNat_natCast]
 unfold Y8.fetchY
 rw [hr]
 constructor
 · intro hg
   simp [hg]
 · intro hg
   simp [hg]
   rfl
set_option maxRecDepth 100000 in
set_option maxHeartbeats 8000000 in
theorem rqGet_range (h : Pool9 w F A Y) (i : Int) (hi : ¬ (0 ≤ i ∧ i < A.n)) : Calls Tryz.prog 12 #[.pointer (some ⟨A.q, 0, none⟩), .int .i64 i] w fun e w' => e = .returned (pgOut noPg 2) ∧ Below w.heap.size w w' := by
 have R0 := Blk.new w 45 #[.int .i64 0, .string ⟨#[]⟩]
 have HB := Lib.hid ((Below.refl w.heap.size w).alloc (Nat.le_refl _) (.cells #[.int .i64 0, .string ⟨#[]⟩] 45))
 have c0 := (h.more HB.out).isQ.cells.1
 have cn := (h.more HB.out).store_n
 clear h
 by_cases h0 : i < 0
 · clear hi
   go_enter Tryz.func12, Tryz.ntmps12
   go_wp2_with (refine wpList_store_row rfl 45 _ _ rfl w.heap.size _ rfl rfl 45 _ R0 (by kernel_rfl) (by simp) (by simp [Value.oneCell']) ?_)
   exact bodyPost_ret (results_row_tmp rfl _ _ w.heap.size 45 _ _ rfl (R0.setRow _) Tryz.underlying45 rfl (by kernel_rfl)) rfl ⟨rfl, below_setRow HB.out (Nat.le_refl _) _⟩
 · have h1 : (A.n : Int) ≤ i := by omega
   clear hi
   go_enter Tryz.func12, Tryz.ntmps12
   go_wp2_with (refine wpList_store_row rfl 45 _ _ rfl w.heap.size _ rfl rfl 45 _ R0 (by kernel_rfl) (by simp) (by simp [Value.oneCell']) ?_)
   exact bodyPost_ret (results_row_tmp rfl _ _ w.heap.size 45 _ _ rfl (R0.setRow _) Tryz.underlying45 rfl (by kernel_rfl)) rfl ⟨rfl, below_setRow HB.out (Nat.le_refl _) _⟩
set_option maxRecDepth 100000 in
set_option maxHeartbeats 8000000 in
theorem rqGet_held (h : Pool9 w F A Y) (i : Nat) (hi : i < A.n) {k : Nat} {f : Fr8} (hh : holds Y.l i = some k) (hk : Y.l[k]? = some (some f)) : Calls Tryz.prog 12 #[.pointer (some ⟨A.q, 0, none⟩), .int .i64 i] w fun e w' => e = .returned (pgOut f.pg 0) ∧ Below w.heap.size w w' := by
 have R0 := Blk.new w 45 #[.int .i64 0, .string ⟨#[]⟩]
 have HB := Lib.hid ((Below.refl w.heap.size w).alloc (Nat.le_refl _) (.cells #[.int .i64 0, .string ⟨#[]⟩] 45))
 have h1 := h.more HB.out
 obtain ⟨c0, -, c2, -⟩ := h1.isQ.cells
 obtain ⟨-, d1, d2, -, -⟩ := h1.isQ.rowS hk
 have cn := h1.store_n
 have HO := Lib.hid (rqHolds_any h1 (i : Int))
 have hi' : holdsI Y.l (i : Int) = k := by unfold holdsI; rw [hh]
 rw [hi'] at HO
 have hlt := holds_lt hh
 have hk1 : (k : Int) < Y.l.length := by omega
 have hk0 : (0 : Int) ≤ (k : Int) := by omega
 have hl8 : (Y.l.length : Int) ≤ 8 := by have := h.ok.len8; omega
 have hin : decide (A.n ≤ i) = false := by simp; omega
 clear h h1 hi hh hk hi' hlt
 go_enter Tryz.func12, Tryz.ntmps12
 go_wp2_with fail
 refine HO.out.mono ?_
 rintro e w1 ⟨rfl, rfl⟩
 go_wp2_with (refine wpList_store_row rfl 45 _ _ rfl w.heap.size _ rfl rfl 45 _ R0 (by kernel_rfl) (by simp) (by simp [Value.oneCell']) ?_)
 exact bodyPost_ret (results_row_tmp rfl _ _ w.heap.size 45 _ _ rfl (R0.setRow _) Tryz.underlying45 rfl (by kernel_rfl)) rfl ⟨rfl, below_setRow HB.out (Nat.le_refl _) _⟩
set_option maxRecDepth 100000 in
set_option maxHeartbeats 32000000 in
theorem rqGet_free (h : Pool9 w F A Y) (i : Nat) (hi : i < A.n) (hh : holds Y.l i = none) {k : Nat} (hf : free Y.l = some k) (ht : Y.t < 4294967295) : Calls Tryz.prog 12 #[.pointer (some ⟨A.q, 0, none⟩), .int .i64 i] w (Out9 w F A (Y.getY A.base A.n i).1 (pgOut (Y.getY A.base A.n i).2.1 (Y.getY A.base A.n i).2.2)) := by
 have hkn := (free_some hf).1
 have hkb := (free_some hf).2
 have HKN := Lib.hid hkn
 have HKB := Lib.hid hkb
 have HKL := Lib.hid (List.getElem?_eq_some_iff.1 hkn).1
 have HGT := Lib.hid (getAt_of (Y := Y) hi hh (roomY_free hf))
 clear hkn hkb
 clear hf
 have R0 := Lib.hid (Blk.new w 45 #[.int .i64 0, .string ⟨#[]⟩])
 have HB := Lib.hid ((Below.refl w.heap.size w).alloc (Nat.le_refl _) (.cells #[.int .i64 0, .string ⟨#[]⟩] 45))
 have P1 := Lib.hid (h.more HB.out)
 have S1 := Lib.hid (Step.ofBelow (F := F) HB.out)
 have HRF : Hid (¬ F w.heap.size) := fun e => by have := h.lt _ e; omega
 have hho : holdsI Y.l (i : Int) = -1 := by unfold holdsI; rw [hh]
 have hl8 : (Y.l.length : Int) ≤ 8 := by have := h.ok.len8; omega
 have hin : decide (A.n ≤ i) = false := by simp; omega
 have HI := Lib.hid hi
 have HHO := Lib.hid hh
 have HT := Lib.hid ht
 go_enter Tryz.func12, Tryz.ntmps12
 go_upto_region 1 with fail
 change Code.wp _ _ _ _ (w.alloc (.cells #[.int .i64 0, .string ⟨#[]⟩] 45))
 clear HB h hh hi ht
 generalize w.alloc (.cells #[.int .i64 0, .string ⟨#[]⟩] 45) = w0 at *
 generalize hrb : w.heap.size = rb at *
 have HRB : Hid (w.heap.size ≤ rb) := Nat.le_of_eq hrb
 clear hrb
 obtain ⟨c0, -, c2, c3⟩ := P1.out.isQ.cells
 have cn := P1.out.store_n
 have HO := Lib.hid (rqHolds_any P1.out (i : Int))
 rw [hho] at HO
 clear hho
 go_wp2_with fail
 refine HO.out.mono ?_
 rintro e w0' ⟨rfl, rfl⟩
 clear HO
 go_wp2_with fail
 go_loopw [6] (fun vj wk => ∃ j : Nat, vj = .int .i64 j ∧ j ≤ k ∧ wk = w0) (fun vj _ => k - (intOf vj).toNat)
 case atStart => exact ⟨0, rfl, Nat.zero_le _, rfl⟩
 case round =>
   obtain ⟨j, rfl, hjk, hw⟩ := hrel
   replace hw := hw.symm
   subst hw
   have hkl := HKL.out
   have hjl : (j : Int) < Y.l.length := by omega
   have hj0 : (0 : Int) ≤ (j : Int) := by omega
   by_cases hlt : j < k
   · obtain ⟨f, hfj⟩ := HKB.out j hlt
     obtain ⟨d0, -, -, -, -⟩ := P1.out.isQ.rowS hfj
     have hn0 : (0 : Int) ≤ (f.no : Int) := by omega
     clear hfj
     go_wp2
     go_roundw
     case rel => exact ⟨j + 1, by go_num, by omega, trivial⟩
     case measure => simp [intOf]; omega
   · obtain rfl : j = k := by omega
     obtain ⟨d0, -, -, -, -⟩ := P1.out.isQ.rowN HKN.out
     have hjn : ((j : Int) == (Y.l.length : Int)) = false := by simp; omega
     have hjn2 : ¬ ((j : Int) = (Y.l.length : Int)) := by omega
     go_wp2_with fail
     clear d0 c2 c3 cn hjn hjn2
     have HT1 : Hid (Y.t ≤ 4294967296) := by show _ ≤ _; have := HT.out; omega
     have NF1 : Hid (¬ F rb) := HRF
     clear c0
     by_cases hg : Y.D.gone = true
     · have RD := Lib.hid (p9_dead P1.out hg HI.out)
       have hget := HGT.out.1 hg
       have HG := Lib.hid hget
       obtain ⟨c0, -, -, -⟩ := P1.out.isQ.cells
       clear hg hget
       go_wp2_with fail
       refine RD.out.mono ?_
       rintro e w1 ⟨rfl, hb1⟩
       have hb2 := hb1.alloc hb1.size (.cells #[.int .i64 0, .string ⟨#[]⟩] 45)
       have R2 := (R0.out.keep hb1 R0.out.lt).alloc (.cells #[.int .i64 0, .string ⟨#[]⟩] 45)
       have P2 := Lib.hid (P1.out.more hb2)
       have S2 := Lib.hid (S1.out.trans (Step.ofBelow hb2))
       clear hb1 hb2 RD
       go_wp2_with (refine wpList_store_row rfl 45 _ _ rfl rb _ rfl rfl 45 _ R2 (by kernel_rfl) (by simp) (by simp [Value.oneCell']) ?_)
       rw [HG.out]
       exact bodyPost_ret (results_row_tmp rfl _ _ rb 45 _ _ rfl (R2.setRow _) Tryz.underlying45 rfl (by kernel_rfl)) rfl ⟨rfl, F, (P2.out).far NF1.out _, (S2.out).farRow HRF.out HRB.out _⟩
     · have hg' : Y.D.gone = false := by simpa using hg
       have RD := Lib.hid (p9_read P1.out hg' HI.out (by have := HT1.out; omega))
       have hget := HGT.out.2 hg'
       have HG := Lib.hid hget
       have HOK := Lib.hid (P1.out.ok.fill HKN.out hg' HI.out HHO.out)
       obtain ⟨c0, -, -, -⟩ := P1.out.isQ.cells
       clear hg hg' hget
       go_wp2_with fail
       refine RD.out.mono ?_
       rintro e w1 ⟨rfl, hb1⟩
       have hb2 := hb1.alloc hb1.size (.cells #[.int .i64 (Y.P i).1, .string (Y.P i).2] 45)
       have R2 := Lib.hid ((R0.out.keep hb1 R0.out.lt).alloc (.cells #[.int .i64 (Y.P i).1, .string (Y.P i).2] 45))
       have X2 := Lib.hid (Blk.new w1 45 #[.int .i64 (Y.P i).1, .string (Y.P i).2])
       have P2 := Lib.hid (P1.out.more hb2)
       have S2 := Lib.hid (S1.out.trans (Step.ofBelow hb2))
       have HXF : Hid (¬ F w1.heap.size) := fun e => by have := (P1.out.more hb1).lt _ e; omega
       have HXR : Hid (w1.heap.size ≠ rb) := by have := (R0.out.keep hb1 R0.out.lt).lt; show _ ≠ _; omega
       clear hb1 hb2 RD P1 S1 R0 c0
       go_upto_region 18 with fail
       generalize w1.alloc (.cells #[.int .i64 (Y.P i).1, .string (Y.P i).2] 45) = w2 at *
       generalize w1.heap.size = xb at *
       have C : Hid (∀ W, Below w2.heap.size w2 W → W.cell? ⟨A.q, 2, none⟩ = some (.slice (some ⟨A.gf, 0, none⟩) Y.l.length A.cap) ∧ Blk W xb 45 #[.int .i64 (Y.P i).1, .string (Y.P i).2]) := fun W hW =>
         ⟨(P2.out.more hW).isQ.cells.2.2.1, X2.out.keep hW X2.out.lt⟩
       have HB2 := Lib.hid (Below.refl w2.heap.size w2)
       have hkA : ((j : Nat) : Int) < Y.l.length := by have := (List.getElem?_eq_some_iff.1 HKN.out).1; omega
       have hkB : (0 : Int) ≤ ((j : Nat) : Int) := by omega
       refine' wp_region_conf 9 (.is _ :: .is _ :: .is _ :: .is _ :: .is _ :: .is _ :: .is _ :: .is _ :: .is _ :: []) (by kernel_rfl) (by kernel_rfl) (by kernel_rfl) (by kernel_rfl) rfl ?main
       case main =>
       iterate 9
         apply obs_step
         · rfl
         · intro w4 hE4 hk4
           have hb4 := below2 HB2.out ((Below.refl w2.heap.size w2).drew.trans hE4)
           obtain ⟨d0, x8⟩ := C.out w4 hb4
           clear hk4 hE4
           go_wp2_with (refine wpList_load_row rfl 45 _ rfl xb rfl 45 _ (0, 0) _ x8 Tryz.underlying45 rfl (by kernel_rfl) ?_)
           first
           | (refine post_eq ?_ (Below.refl _ _)
              simp only [Act.put, sA, sB, sC]
              try rfl
              done)
           | (refine post_eq ?_ (drewN_below _ _)
              simp only [Act.put, sA, sB, sC]
              try rfl
              done)
           | (refine post_eq ?_ hb5
              simp only [Act.put, sA, sB, sC]
              try rfl
              done)
         · simp only [Act.put, sA, sB, sC]
           rfl
       refine obs_end fun w3 hE9 _ => ?_
       have hb9 : Below w2.heap.size w2 w3 := (Below.refl w2.heap.size w2).drew.trans hE9
       clear hE9
       have P3 := Lib.hid (P2.out.more hb9)
       have S3 := Lib.hid (S2.out.trans (Step.ofBelow hb9))
       have R3 := Lib.hid (R2.out.keep hb9 R2.out.lt)
       have X3 := Lib.hid (X2.out.keep hb9 X2.out.lt)
       clear hb9 HB2 C P2 S2 R2 X2
       change wpList _ _ _ _ _ _
       obtain ⟨d0, d1, d2, d3, d4⟩ := P3.out.isQ.rowN HKN.out
       have hkl : j < Y.l.length := (List.getElem?_eq_some_iff.1 HKN.out).1
       have hk1 : ((j : Nat) : Int) < Y.l.length := by omega
       have hk0 : (0 : Int) ≤ ((j : Nat) : Int) := by omega
       have hl8 : (Y.l.length : Int) ≤ 8 := by have := P3.out.ok.len8; omega
       have fz : ∀ j, w3.frozen? ⟨A.gf, j, none⟩ = false := fun j => P3.out.isQ.rows.frozenAt j
       obtain ⟨k1, k2⟩ := P3.out.putFrame hkl (some ⟨i, Y.P i, false, 0⟩) HOK.out
       have P4 := Lib.hid k1
       have S4 := Lib.hid (S3.out.trans k2)
       have hgr : rb ≠ A.gf := fun e => NF1.out (by rw [e]; exact P3.out.ofQ (.inr rfl))
       have hgx : xb ≠ A.gf := fun e => HXF.out (by rw [e]; exact P3.out.ofQ (.inr rfl))
       have R4 : Blk (World.put5 w3 A.gf j (frqCells (some ⟨i, Y.P i, false, 0⟩))) rb 45 #[.int .i64 0, .string ⟨#[]⟩] := (put5_other _ _ _ _ hgr).trans R3.out
       have X4 : Blk (World.put5 w3 A.gf j (frqCells (some ⟨i, Y.P i, false, 0⟩))) xb 45 #[.int .i64 (Y.P i).1, .string (Y.P i).2] := (put5_other _ _ _ _ hgx).trans X3.out
       clear k1 k2 P3 S3 R3 X3 HOK hgr hgx hkl
       go_upto_region 19 with fail
       change Code.wp _ _ _ _ (World.put5 w3 A.gf j (frqCells (some ⟨i, Y.P i, false, 0⟩)))
       generalize World.put5 w3 A.gf j (frqCells (some ⟨i, Y.P i, false, 0⟩)) = w5 at *
       clear d0 d1 d2 d3 d4 fz
       go_wp2_with (first
         | (refine wpList_load_row rfl 45 _ rfl xb rfl 45 _ (0, 0) _ X4 Tryz.underlying45 rfl (by kernel_rfl) ?_)
         | (refine wpList_store_row rfl 45 _ _ rfl rb _ rfl rfl 45 _ R4 (by kernel_rfl) (by simp) (by simp [Value.oneCell']) ?_))
       rw [HG.out]
       exact bodyPost_ret (results_row_tmp rfl _ _ rb 45 _ _ rfl (R4.setRow _) Tryz.underlying45 rfl (by kernel_rfl)) rfl ⟨rfl, F, (P4.out).far NF1.out _, (S4.out).farRow HRF.out HRB.out _⟩
end
end Go.Proofs.YtbplgbkbggmaeaaGreat

namespace Go.Proofs.YtbplgbkbggmaeaaGreat
open Go.RowKit
section
variable {w : World} {F : Foot} {A : A9} {Y : Y8}
theorem getAt_err {i : Nat} {Y1 : Y8} {k er : Nat} (hi : i < A.n) (hh : holds Y.l (i : Int) = none) (hr : Y.roomY A.base = (Y1, k, er)) (h0 : er ≠ 0) : Y.getY A.base A.n i = (Y1, noPg, er) := by
 unfold Y8.getY
 rw [if_pos ⟨by omega, by omega⟩, hh]
 simp only [Int.toNat_natCast]
 unfold Y8.fetchY
 rw [hr]
 simp [h0]
set_option maxRecDepth 100000 in
set_option maxHeartbeats 32000000 in
theorem rqGet_full (h : Pool9 w F A Y) (i : Nat) (hi : i < A.n) (hh : holds Y.l i = none) {f : Fr8} (hf : free Y.l = none) (hk : Y.l[Y.hand]? = some (some f)) (ht : Y.t < 4294967295) : Calls Tryz.prog 12 #[.pointer (some ⟨A.q, 0, none⟩), .int .i64 i] w (Out9 w F A (Y.getY A.base A.n i).1 (pgOut (Y.getY A.base A.n i).2.1 (Y.getY A.base A.n i).2.2)) := by
 have HKB := Lib.hid (free_none hf)
 have HKH := Lib.hid hk
 have HRM := Lib.hid (roomY_full (base := A.base) hf hk)
 have HRH := Lib.hid (roomY_holds h.ok hh)
 have HEM := Lib.hid (h.ok.empty hk)
 have HHD := Lib.hid h.ok.hand
 clear hf hk
 have R0 := Lib.hid (Blk.new w 45 #[.int .i64 0, .string ⟨#[]⟩])
 have HB := Lib.hid ((Below.refl w.heap.size w).alloc (Nat.le_refl _) (.cells #[.int .i64 0, .string ⟨#[]⟩] 45))
 have P1 := Lib.hid (h.more HB.out)
 have S1 := Lib.hid (Step.ofBelow (F := F) HB.out)
 have HRF : Hid (¬ F w.heap.size) := fun e => by have := h.lt _ e; omega
 have hho : holdsI Y.l (i : Int) = -1 := by unfold holdsI; rw [hh]
 have hl8 : (Y.l.length : Int) ≤ 8 := by have := h.ok.len8; omega
 have hin : decide (A.n ≤ i) = false := by simp; omega
 have HI := Lib.hid hi
 have HHO := Lib.hid hh
 have HT := Lib.hid ht
 go_enter Tryz.func12, Tryz.ntmps12
 go_upto_region 1 with fail
 change Code.wp _ _ _ _ (w.alloc (.cells #[.int .i64 0, .string ⟨#[]⟩] 45))
 clear HB h hh hi ht
 generalize w.alloc (.cells #[.int .i64 0, .string ⟨#[]⟩] 45) = w0 at *
 generalize hrb : w.heap.size = rb at *
 have HRB : Hid (w.heap.size ≤ rb) := Nat.le_of_eq hrb
 clear hrb
 obtain ⟨c0, -, c2, c3⟩ := P1.out.isQ.cells
 have cn := P1.out.store_n
 have HO := Lib.hid (rqHolds_any P1.out (i : Int))
 rw [hho] at HO
 clear hho
 go_wp2_with fail
 refine HO.out.mono ?_
 rintro e w0' ⟨rfl, rfl⟩
 clear HO
 go_wp2_with fail
 go_loopw [6] (fun vj wk => ∃ j : Nat, vj = .int .i64 j ∧ j ≤ Y.l.length ∧ wk = w0) (fun vj _ => Y.l.length - (intOf vj).toNat)
 case atStart => exact ⟨0, rfl, Nat.zero_le _, rfl⟩
 case round =>
   obtain ⟨j, rfl, hjk, hw⟩ := hrel
   replace hw := hw.symm
   subst hw
   by_cases hlt : j < Y.l.length
   · have hjl : (j : Int) < Y.l.length := by omega
     have hj0 : (0 : Int) ≤ (j : Int) := by omega
     obtain ⟨f, hfj⟩ := HKB.out j hlt
     obtain ⟨d0, -, -, -, -⟩ := P1.out.isQ.rowS hfj
     have hn0 : (0 : Int) ≤ (f.no : Int) := by omega
     clear hfj
     go_wp2
     go_roundw
     case rel => exact ⟨j + 1, by go_num, by omega, trivial⟩
     case measure => simp [intOf]; omega
   · obtain rfl : j = Y.l.length := by omega
     have EM := Lib.hid (rqEmpty_any P1.out HKH.out (by have := HT.out; omega))
     clear hlt hjk
     go_wp2_with fail
     clear c2 c3 cn c0
     refine EM.out.mono ?_
     clear EM
     generalize hZ : Y.emptyY A.base Y.hand f = Z at *
     obtain ⟨Y1, er⟩ := Z
     have HM := HRM.out
     have HE := HEM.out
     simp only at HM HE ⊢
     rintro e w1 ⟨rfl, F1, hp1, hs1⟩
     have P2 := Lib.hid hp1
     have S2 := Lib.hid (S1.out.trans hs1)
     have NF1 : Hid (¬ F1 rb) := fun e => (hs1.foot rb e).elim HRF.out fun e => by have := R0.out.lt; omega
     have R2 : Hid (Blk w1 rb 45 #[.int .i64 0, .string ⟨#[]⟩]) := (hs1.block rb R0.out.lt HRF.out).trans R0.out
     clear hp1 hs1 P1 S1 R0 hZ HRM HEM
     by_cases h0 : er = 0
     · subst h0
       rw [if_pos rfl] at HM HE
       have HGT := Lib.hid (getAt_of (Y := Y) HI.out HHO.out HM)
       have hho2 := HRH.out
       rw [HM] at hho2
       have hl1 : Y1.l = Y.l.set Y.hand none := HE.2.2.2.2
       have hh1 : Y1.hand = Y.hand := HE.2.2.1
       have hlen : Y1.l.length = Y.l.length := by rw [hl1]; simp
       have hhl : Y.hand < Y.l.length := HHD.out
       have HT1' : Hid (Y1.t ≤ 4294967296) := by have := HE.2.2.2.1; have := HT.out; show _ ≤ _; omega
       have hcast : (((Y.hand + 1) % Y.l.length : Nat) : Int) = ((Y.hand : Int) + 1) % (Y.l.length : Int) := by rw [Int.natCast_emod]; rfl
       have hhI : (Y.hand : Int) ≤ 8 := by omega
       have hh0 : (0 : Int) ≤ (Y.hand : Int) := by omega
       have hlpos : (0 : Int) < (Y.l.length : Int) := by omega
       have hlne : ((Y.l.length : Int) == 0) = false := by rw [beq_eq_false_iff_ne]; omega
       have C : Hid (∀ W, Below w1.heap.size w1 W → W.cell? ⟨A.q, 2, none⟩ = some (.slice (some ⟨A.gf, 0, none⟩) Y.l.length A.cap) ∧ W.cell? ⟨A.q, 3, none⟩ = some (.int .i64 Y.hand)) := fun W hW => by
         have r := (P2.out.more hW).isQ.cells
         rw [hlen, hh1] at r
         exact ⟨r.2.2.1, r.2.2.2⟩
       have HB2 := Lib.hid (Below.refl w1.heap.size w1)
       have HMOD : Hid ((Y.hand + 1) % Y.l.length < Y1.l.length) := by show _ < _; rw [hlen]; exact Nat.mod_lt _ (by omega)
       have HY2 : Hid (Y1.handOn = { Y1 with l := Y1.l, hand := (Y.hand + 1) % Y.l.length }) := by show _ = _; unfold Y8.handOn; rw [hh1, hlen]
       have HKN' : Hid (Y1.handOn.l[Y.hand]? = some none) := by show Y1.l[Y.hand]? = some none; rw [hl1, getElem?_set_frs, if_pos rfl, if_pos hhl]
       have HHO2 : Hid (holds Y1.handOn.l (i : Int) = none) := hho2
       have HC := Lib.hid hcast
       clear HM HE hl1 hh1 hlen hho2 hcast HHO hhl
       go_upto_region 14 with fail
       refine' wp_region_conf 14 (.is _ :: .is _ :: .is _ :: .is _ :: .is _ :: .is _ :: .is _ :: .is _ :: .is _ :: .is _ :: .is _ :: .is _ :: .is _ :: .is _ :: []) (by kernel_rfl) (by kernel_rfl) (by kernel_rfl) (by kernel_rfl) rfl ?main
       case main =>
       iterate 14
         apply obs_step
         · rfl
         · intro w4 hE4 hk4
           have hb4 := below2 HB2.out ((Below.refl w1.heap.size w1).drew.trans hE4)
           obtain ⟨d2, d3⟩ := C.out w4 hb4
           clear hk4 hE4
           go_wp2_with (fail)
           first
           | (refine post_eq ?_ (Below.refl _ _)
              simp only [Act.put, sA, sB, sC]
              try rfl
              done)
           | (refine post_eq ?_ (drewN_below _ _)
              simp only [Act.put, sA, sB, sC]
              try rfl
              done)
           | (refine post_eq ?_ hb5
              simp only [Act.put, sA, sB, sC]
              try rfl
              done)
         · simp only [Act.put, sA, sB, sC]
           rfl
       refine obs_end fun w2 hE9 _ => ?_
       have hb9 : Below w1.heap.size w1 w2 := (Below.refl w1.heap.size w1).drew.trans hE9
       clear hE9
       have P3 := Lib.hid (P2.out.more hb9)
       have S3 := Lib.hid (S2.out.trans (Step.ofBelow hb9))
       have R3 := Lib.hid (R2.out.keep hb9 R2.out.lt)
       clear hb9 HB2 C P2 S2 R2
       change wpList _ _ _ _ _ _
       have c3 := P3.out.isQ.cells.2.2.2
       have f3 := P3.out.isQ.head.frozen 3
       have q4 := P3.out.isQ.setHand ((Y.hand + 1) % Y.l.length)
       obtain ⟨k1, k2⟩ := P3.out.onPool (hand := (Y.hand + 1) % Y.l.length) q4 ((Step.refl _ _).set (p := ⟨A.q, 3, none⟩) (.inl rfl) _) (P3.out.ok.setHand HMOD.out)
       rw [← HY2.out, HC.out] at k1
       rw [HC.out] at k2
       have hrq : rb ≠ A.q := fun e => NF1.out (by rw [e]; exact P3.out.ofQ (.inl rfl))
       have R4 := Lib.hid (R3.out.far (p := ⟨A.q, 3, none⟩) hrq (.int .i64 (((Y.hand : Int) + 1) % (Y.l.length : Int))))
       have P4 := Lib.hid k1
       have S4 := Lib.hid (S3.out.trans k2)
       clear k1 k2 q4 P3 S3 R3 HMOD HY2 HC hrq
       go_upto_region 15 with fail
       generalize w2.setCell ⟨A.q, 3, none⟩ (.int .i64 (((Y.hand : Int) + 1) % (Y.l.length : Int))) = w5 at *
       clear c3 f3 hlne hlpos
       have HT1 : Hid (Y1.handOn.t ≤ 4294967296) := HT1'
       have HHO := HHO2
       have HKN := HKN'
       clear HT1' HHO2 HKN'
       generalize Y1.handOn = Y2 at *
       by_cases hg : Y2.D.gone = true
       · have RD := Lib.hid (p9_dead P4.out hg HI.out)
         have hget := HGT.out.1 hg
         have HG := Lib.hid hget
         obtain ⟨c0, -, -, -⟩ := P4.out.isQ.cells
         clear hg hget
         go_wp2_with fail
         refine RD.out.mono ?_
         rintro e w1 ⟨rfl, hb1⟩
         have hb2 := hb1.alloc hb1.size (.cells #[.int .i64 0, .string ⟨#[]⟩] 45)
         have R2 := (R4.out.keep hb1 R4.out.lt).alloc (.cells #[.int .i64 0, .string ⟨#[]⟩] 45)
         have P2 := Lib.hid (P4.out.more hb2)
         have S2 := Lib.hid (S4.out.trans (Step.ofBelow hb2))
         clear hb1 hb2 RD
         go_wp2_with (refine wpList_store_row rfl 45 _ _ rfl rb _ rfl rfl 45 _ R2 (by kernel_rfl) (by simp) (by simp [Value.oneCell']) ?_)
         rw [HG.out]
         exact bodyPost_ret (results_row_tmp rfl _ _ rb 45 _ _ rfl (R2.setRow _) Tryz.underlying45 rfl (by kernel_rfl)) rfl ⟨rfl, F1, (P2.out).far NF1.out _, (S2.out).farRow HRF.out HRB.out _⟩
       · have hg' : Y2.D.gone = false := by simpa using hg
         have RD := Lib.hid (p9_read P4.out hg' HI.out (by have := HT1.out; omega))
         have hget := HGT.out.2 hg'
         have HG := Lib.hid hget
         have HOK := Lib.hid (P4.out.ok.fill HKN.out hg' HI.out HHO.out)
         obtain ⟨c0, -, -, -⟩ := P4.out.isQ.cells
         clear hg hg' hget
         go_wp2_with fail
         refine RD.out.mono ?_
         rintro e w1 ⟨rfl, hb1⟩
         have hb2 := hb1.alloc hb1.size (.cells #[.int .i64 (Y2.P i).1, .string (Y2.P i).2] 45)
         have R2 := Lib.hid ((R4.out.keep hb1 R4.out.lt).alloc (.cells #[.int .i64 (Y2.P i).1, .string (Y2.P i).2] 45))
         have X2 := Lib.hid (Blk.new w1 45 #[.int .i64 (Y2.P i).1, .string (Y2.P i).2])
         have P2 := Lib.hid (P4.out.more hb2)
         have S2 := Lib.hid (S4.out.trans (Step.ofBelow hb2))
         have HXF : Hid (¬ F1 w1.heap.size) := fun e => by have := (P4.out.more hb1).lt _ e; omega
         have HXR : Hid (w1.heap.size ≠ rb) := by have := (R4.out.keep hb1 R4.out.lt).lt; show _ ≠ _; omega
         clear hb1 hb2 RD P4 S4 R4 c0
         go_upto_region 18 with fail
         generalize w1.alloc (.cells #[.int .i64 (Y2.P i).1, .string (Y2.P i).2] 45) = w2 at *
         generalize w1.heap.size = xb at *
         have C : Hid (∀ W, Below w2.heap.size w2 W → W.cell? ⟨A.q, 2, none⟩ = some (.slice (some ⟨A.gf, 0, none⟩) Y2.l.length A.cap) ∧ Blk W xb 45 #[.int .i64 (Y2.P i).1, .string (Y2.P i).2]) := fun W hW =>
           ⟨(P2.out.more hW).isQ.cells.2.2.1, X2.out.keep hW X2.out.lt⟩
         have HB2 := Lib.hid (Below.refl w2.heap.size w2)
         have hkA : ((Y.hand : Nat) : Int) < Y2.l.length := by have := (List.getElem?_eq_some_iff.1 HKN.out).1; omega
         have hkB : (0 : Int) ≤ ((Y.hand : Nat) : Int) := by omega
         refine' wp_region_conf 9 (.is _ :: .is _ :: .is _ :: .is _ :: .is _ :: .is _ :: .is _ :: .is _ :: .is _ :: []) (by kernel_rfl) (by kernel_rfl) (by kernel_rfl) (by kernel_rfl) rfl ?main
         case main =>
         iterate 9
           apply obs_step
           · rfl
           · intro w4 hE4 hk4
             have hb4 := below2 HB2.out ((Below.refl w2.heap.size w2).drew.trans hE4)
             obtain ⟨d0, x8⟩ := C.out w4 hb4
             clear hk4 hE4
             go_wp2_with (refine wpList_load_row rfl 45 _ rfl xb rfl 45 _ (0, 0) _ x8 Tryz.underlying45 rfl (by kernel_rfl) ?_)
             first
             | (refine post_eq ?_ (Below.refl _ _)
                simp only [Act.put, sA, sB, sC]
                try rfl
                done)
             | (refine post_eq ?_ (drewN_below _ _)
                simp only [Act.put, sA, sB, sC]
                try rfl
                done)
             | (refine post_eq ?_ hb5
                simp only [Act.put, sA, sB, sC]
                try rfl
                done)
           · simp only [Act.put, sA, sB, sC]
             rfl
         refine obs_end fun w3 hE9 _ => ?_
         have hb9 : Below w2.heap.size w2 w3 := (Below.refl w2.heap.size w2).drew.trans hE9
         clear hE9
         have P3 := Lib.hid (P2.out.more hb9)
         have S3 := Lib.hid (S2.out.trans (Step.ofBelow hb9))
         have R3 := Lib.hid (R2.out.keep hb9 R2.out.lt)
         have X3 := Lib.hid (X2.out.keep hb9 X2.out.lt)
         clear hb9 HB2 C P2 S2 R2 X2
         change wpList _ _ _ _ _ _
         obtain ⟨d0, d1, d2, d3, d4⟩ := P3.out.isQ.rowN HKN.out
         have hkl : Y.hand < Y2.l.length := (List.getElem?_eq_some_iff.1 HKN.out).1
         have hk1 : ((Y.hand : Nat) : Int) < Y2.l.length := by omega
         have hk0 : (0 : Int) ≤ ((Y.hand : Nat) : Int) := by omega
         have hl8 : (Y2.l.length : Int) ≤ 8 := by have := P3.out.ok.len8; omega
         have fz : ∀ j, w3.frozen? ⟨A.gf, j, none⟩ = false := fun j => P3.out.isQ.rows.frozenAt j
         obtain ⟨k1, k2⟩ := P3.out.putFrame hkl (some ⟨i, Y2.P i, false, 0⟩) HOK.out
         have P4 := Lib.hid k1
         have S4 := Lib.hid (S3.out.trans k2)
         have hgr : rb ≠ A.gf := fun e => NF1.out (by rw [e]; exact P3.out.ofQ (.inr rfl))
         have hgx : xb ≠ A.gf := fun e => HXF.out (by rw [e]; exact P3.out.ofQ (.inr rfl))
         have R4 : Blk (World.put5 w3 A.gf Y.hand (frqCells (some ⟨i, Y2.P i, false, 0⟩))) rb 45 #[.int .i64 0, .string ⟨#[]⟩] := (put5_other _ _ _ _ hgr).trans R3.out
         have X4 : Blk (World.put5 w3 A.gf Y.hand (frqCells (some ⟨i, Y2.P i, false, 0⟩))) xb 45 #[.int .i64 (Y2.P i).1, .string (Y2.P i).2] := (put5_other _ _ _ _ hgx).trans X3.out
         clear k1 k2 P3 S3 R3 X3 HOK hgr hgx hkl
         go_upto_region 19 with fail
         change Code.wp _ _ _ _ (World.put5 w3 A.gf Y.hand (frqCells (some ⟨i, Y2.P i, false, 0⟩)))
         generalize World.put5 w3 A.gf Y.hand (frqCells (some ⟨i, Y2.P i, false, 0⟩)) = w5 at *
         clear d0 d1 d2 d3 d4 fz
         go_wp2_with (first
           | (refine wpList_load_row rfl 45 _ rfl xb rfl 45 _ (0, 0) _ X4 Tryz.underlying45 rfl (by kernel_rfl) ?_)
           | (refine wpList_store_row rfl 45 _ _ rfl rb _ rfl rfl 45 _ R4 (by kernel_rfl) (by simp) (by simp [Value.oneCell']) ?_))
         rw [HG.out]
         exact bodyPost_ret (results_row_tmp rfl _ _ rb 45 _ _ rfl (R4.setRow _) Tryz.underlying45 rfl (by kernel_rfl)) rfl ⟨rfl, F1, (P4.out).far NF1.out _, (S4.out).farRow HRF.out HRB.out _⟩
     · rw [if_neg h0] at HM
       have HG := Lib.hid (getAt_err HI.out HHO.out HM h0)
       have hne : (((er : Nat) : Int) != 0) = true := by simp; omega
       have r2 := R2.out
       clear HM HE h0 HHO
       go_wp2_with (refine wpList_store_row rfl 45 _ _ rfl rb _ rfl rfl 45 _ r2 (by kernel_rfl) (by simp) (by simp [Value.oneCell']) ?_)
       rw [HG.out]
       exact bodyPost_ret (results_row_tmp rfl _ _ rb 45 _ _ rfl (R2.out.setRow _) Tryz.underlying45 rfl (by kernel_rfl)) rfl ⟨rfl, F1, P2.out.far NF1.out _, S2.out.farRow HRF.out HRB.out _⟩
theorem rqGet_any (h : Pool9 w F A Y) (i : Int) (ht : Y.t < 4294967295) : Calls Tryz.prog 12 #[.pointer (some ⟨A.q, 0, none⟩), .int .i64 i] w (Out9 w F A (Y.getY A.base A.n i).1 (pgOut (Y.getY A.base A.n i).2.1 (Y.getY A.base A.n i).2.2)) := by
 by_cases hi : 0 ≤ i ∧ i < A.n
 · obtain ⟨I, rfl⟩ := Int.eq_ofNat_of_zero_le hi.1
   have hI : I < A.n := by omega
   cases hh : holds Y.l (I : Int) with
   | none =>
     cases hf : free Y.l with
     | some k => exact rqGet_free h I hI hh hf ht
     | none =>
       obtain ⟨f, hk⟩ := h.ok.full hf
       exact rqGet_full h I hI hh hf hk ht
   | some k =>
     obtain ⟨f, hk, -⟩ := holds_some hh
     have e : Y.getY A.base A.n (I : Int) = (Y, f.pg, 0) := by
       unfold Y8.getY
       rw [if_pos hi, hh]
       simp only
       unfold pageAt
       rw [List.getD_eq_getElem?_getD, hk]
       rfl
     rw [e]
     exact (rqGet_held h I hI hh hk).mono fun _ _ ⟨he, hb⟩ => he ▸ Out9.of h hb _
 · have e : Y.getY A.base A.n i = (Y, noPg, 2) := by unfold Y8.getY; rw [if_neg hi]
   rw [e]
   exact (rqGet_range h i hi).mono fun _ _ ⟨he, hb⟩ => he ▸ Out9.of h hb _
end
end Go.Proofs.YtbplgbkbggmaeaaGreat
