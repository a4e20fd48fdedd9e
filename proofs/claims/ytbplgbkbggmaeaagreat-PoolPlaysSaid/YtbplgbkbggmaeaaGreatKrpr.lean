/- Texts that belong together, joined: RpR, RpS, RpT. -/
import Derived.Test.YtbplgbkbggmaeaaGreatKrpp
import Derived.Test.YtbplgbkbggmaeaaGreatKpod
namespace Go.Proofs.YtbplgbkbggmaeaaGreat
open Go.RowKit
theorem dirtyL_cut {base n : Nat} {Y : Y8} (h : Ok8 base n Y) : dirtyL Y.l = (List.range n).filterMap (dirtyAt Y.l) := by
 unfold dirtyL
 have h8 := h.n8
 have e : List.range 8 = List.range n ++ (List.range (8 - n)).map (n + ·) := by
   rw [← List.range_add]
   congr 1
   omega
 rw [e, List.filterMap_append]
 have e2 : ((List.range (8 - n)).map (n + ·)).filterMap (dirtyAt Y.l) = [] := by
   rw [List.filterMap_eq_nil_iff]
   intro x hx
   obtain ⟨y, -, rfl⟩ := List.mem_map.1 hx
   unfold dirtyAt
   cases hh : holds Y.l ((n + y : Nat) : Int) with
   | none => rfl
   | some k => have := h.held_lt hh; omega
 rw [e2, List.append_nil]
section
variable {w : World} {F : Foot} {A : A9} {Y : Y8}
set_option maxRecDepth 100000 in
set_option maxHeartbeats 16000000 in
theorem rqDirty_any (h : Pool9 w F A Y) : Calls Tryz.prog 25 #[.pointer (some ⟨A.q, 0, none⟩)] w fun e w' => ∃ v, e = .returned v ∧ w'.ownsRow w.heap.size 92 2 v (dirtyL Y.l).length (rows2 (dirtyL Y.l)) ∧ Below w.heap.size w w' := by
 have HP : Hid (∀ W, Below w.heap.size w W → Pool9 W F A Y) := fun W hW => h.more hW
 have HD := Lib.hid (dirtyL_cut h.ok)
 have hn8 : (A.n : Int) ≤ 8 := by have := h.ok.n8; omega
 have hl8 : (Y.l.length : Int) ≤ 8 := by have := h.ok.len8; omega
 have HN8 := Lib.hid h.ok.n8
 clear h
 obtain ⟨i0, hi0, hz0, hz1, hz2⟩ := info_parts info_prow8
 have HI := Lib.hid (And.intro hi0 (And.intro hz0 (And.intro hz1 hz2)))
 clear hi0 hz0 hz1 hz2
 go_enter Tryz.func25, Tryz.ntmps25
 go_wp2_with fail
 go_loopw [3, 4] (fun vl vj wr => ∃ j : Nat, j ≤ A.n ∧ vj = .int .i64 j ∧ wr.ownsRow w.heap.size 92 2 vl ((List.range j).filterMap (dirtyAt Y.l)).length (rows2 ((List.range j).filterMap (dirtyAt Y.l))) ∧ Below w.heap.size w wr) (fun _ vj _ => A.n - (intOf vj).toNat)
 case atStart => exact ⟨0, Nat.zero_le _, rfl, ⟨by simp [rows2], .inl ⟨rfl, rfl⟩⟩, Below.refl _ _⟩
 case round =>
   obtain ⟨j, hjk, rfl, hown, hb⟩ := hrel
   have HB := Lib.hid hb
   have HO := Lib.hid hown
   have P := Lib.hid (HP.out _ hb)
   clear hb hown
   obtain ⟨c0, -, c2, -⟩ := P.out.isQ.cells
   have cn := P.out.store_n
   by_cases hlt : j < A.n
   · have hj1 : (j : Int) < A.n := by omega
     have hjn : decide (j < A.n) = true := by simp [hlt]
     have HH := Lib.hid (rqHolds_any P.out (j : Int))
     have htake : (List.range (j + 1)).filterMap (dirtyAt Y.l) = (List.range j).filterMap (dirtyAt Y.l) ++ (dirtyAt Y.l j).toList := by
       rw [List.range_succ, List.filterMap_append]
       congr 1
     cases hh : holds Y.l (j : Int) with
     | none =>
       have hi : holdsI Y.l (j : Int) = -1 := by unfold holdsI; rw [hh]
       rw [hi] at HH
       have hdn : dirtyAt Y.l j = none := by unfold dirtyAt; rw [hh]
       rw [hdn] at htake
       simp only [Option.toList_none, List.append_nil] at htake
       have HTK := Lib.hid htake
       clear hi hdn htake hh
       go_wp2_with fail
       refine HH.out.mono ?_
       rintro e w1 ⟨rfl, rfl⟩
       clear HH
       go_wp2
       go_roundw
       case rel =>
         refine ⟨j + 1, by omega, by go_num, ?_, HB.out⟩
         rw [HTK.out]
         exact HO.out
       case measure => simp [intOf]; omega
     | some k =>
       have hi : holdsI Y.l (j : Int) = k := by unfold holdsI; rw [hh]
       rw [hi] at HH
       obtain ⟨f, hk, -⟩ := holds_some hh
       have hdt := dirtyAt_some hh hk
       obtain ⟨-, -, -, d3, d4⟩ := P.out.isQ.rowS hk
       rw [hdt] at htake
       have HTK := Lib.hid htake
       have hkl := (List.getElem?_eq_some_iff.1 hk).1
       have hk1 : (k : Int) < Y.l.length := by omega
       have hk0 : (0 : Int) ≤ (k : Int) := by omega
       clear hi hdt htake hh hk hkl
       by_cases hd : f.dirty = true
       · rw [hd] at d3
         rw [if_pos hd] at HTK
         simp only [Option.toList_some] at HTK
         clear hd
         obtain ⟨hi0, hz0, hz1, hz2⟩ := id HI.out
         have B4 : Below wr.heap.size wr (wr.alloc (.cells #[.int .i64 (j : Int), .int .i64 f.since] 92)) := (Below.refl _ _).alloc (Nat.le_refl _) _
         have HO4 := Lib.hid (own_below HO.out B4)
         have HB4 := Lib.hid (HB.out.trans (B4.mono HB.out.size))
         have hq4 := HB4.out.size
         have hlen : ((List.range j).filterMap (dirtyAt Y.l)).length ≤ 8 := Nat.le_trans (List.length_filterMap_le _ _) (by rw [List.length_range]; have := HN8.out; omega)
         clear B4
         go_wp2_with fail
         refine HH.out.mono ?_
         rintro e w1 ⟨rfl, rfl⟩
         clear HH
         go_wp2_with (at_builtin; refine wpList_append_lies _ rfl (.tmp 32) (.tmp 43) 47 rfl w.heap.size 92 i0 (.agg #[.int .i64 0, .int .i64 0]) 2 16 Tryz.underlying47 hi0 hz0 hz1 hz2 rfl (by decide) _ _ _ rfl HO4.out ⟨wr.heap.size, 0, none⟩ 1 1 [.int .i64 (j : Int), .int .i64 f.since] rfl rfl (World.news_of_block (heap_alloc_new wr _)) (by simp [Value.oneCell']) (by omega) (by simp only [maxLen]; omega) (by omega) hq4 _ rfl ?_)
         intro g cap w6 hown hgrow hat hlt6
         have HB6 := Lib.hid (show Below w.heap.size w w6 from HB4.out.trans ⟨hgrow.os, hgrow.tape, hgrow.output, hgrow.size, fun b hb => hgrow.block b (Nat.lt_of_lt_of_le hb hq4) fun e => by have := (HO4.out.lt b e.symm).1; omega⟩)
         have HO6 := Lib.hid hown
         clear hown hgrow hat HO4 HB4 hlt6 hq4
         go_wp2
         go_roundw
         case rel =>
           refine ⟨j + 1, by omega, by go_num, ?_, HB6.out⟩
           rw [HTK.out, rows2_snoc, List.length_append]
           exact HO6.out
         case measure => simp [intOf]; omega
       · have hd' : f.dirty = false := by simpa using hd
         rw [hd'] at d3
         rw [if_neg hd] at HTK
         simp only [Option.toList_none, List.append_nil] at HTK
         clear hd hd'
         go_wp2_with fail
         refine HH.out.mono ?_
         rintro e w1 ⟨rfl, rfl⟩
         clear HH
         go_wp2
         go_roundw
         case rel =>
           refine ⟨j + 1, by omega, by go_num, ?_, HB.out⟩
           rw [HTK.out]
           exact HO.out
         case measure => simp [intOf]; omega
   · obtain rfl : j = A.n := by omega
     have HO2 := HO.out
     rw [← HD.out] at HO2
     have HO3 := Lib.hid HO2
     have hnn : decide (A.n < A.n) = false := by simp
     clear HO2 HO
     go_wp2
     go_ret
     exact ⟨_, rfl, HO3.out, HB.out⟩
end
end Go.Proofs.YtbplgbkbggmaeaaGreat

namespace Go.Proofs.YtbplgbkbggmaeaaGreat
open Go.RowKit
theorem rows2_get (L : List (Int × Int)) (j : Nat) (hj : j < L.length) : (rows2 L)[j * 2]? = some (.int .i64 L[j].1) ∧ (rows2 L)[j * 2 + 1]? = some (.int .i64 L[j].2) := by
 induction L generalizing j with
 | nil => simp at hj
 | cons x L ih =>
   show (cells2 x ++ rows2 L)[j * 2]? = _ ∧ (cells2 x ++ rows2 L)[j * 2 + 1]? = _
   cases j with
   | zero => exact ⟨rfl, rfl⟩
   | succ j =>
     have := ih j (by simpa using hj)
     have e : (cells2 x).length = 2 := rfl
     rw [List.getElem?_append_right (by omega), List.getElem?_append_right (by omega), e, show (j + 1) * 2 - 2 = j * 2 by omega, show (j + 1) * 2 + 1 - 2 = j * 2 + 1 by omega]
     exact this
section
set_option maxRecDepth 100000 in
set_option maxHeartbeats 8000000 in
theorem rqSame_any {w : World} {B1 B2 : Nat} {v1 v2 : Value} {L : List (Int × Int)} (h1 : w.ownsRow B1 92 2 v1 L.length (rows2 L)) (h2 : w.ownsRow B2 92 2 v2 L.length (rows2 L)) (hl : L.length ≤ 100) :
   Calls Tryz.prog 23 #[v1, v2] w fun e w' => e = .returned (.bool true) ∧ Below w.heap.size w w' := by
 obtain ⟨a1, k1, rfl⟩ := own_slice h1
 obtain ⟨a2, k2, rfl⟩ := own_slice h2
 have H1 := Lib.hid h1
 have H2 := Lib.hid h2
 have hlI : (L.length : Int) ≤ 100 := by omega
 have HBB := Lib.hid (Below.refl w.heap.size w)
 clear h1 h2 hl
 go_enter Tryz.func23, Tryz.ntmps23
 go_wp2_with fail
 go_loopw [5] (fun vj wr => ∃ j : Nat, vj = .int .i64 j ∧ j ≤ L.length ∧ Below w.heap.size w wr) (fun vj _ => L.length - (intOf vj).toNat)
 case atStart => exact ⟨0, rfl, Nat.zero_le _, HBB.out⟩
 case round =>
   obtain ⟨j, rfl, hjl, hb⟩ := hrel
   have HB := Lib.hid hb
   clear hb
   by_cases hlt : j < L.length
   · have hj1 : (j : Int) < L.length := by omega
     have hj0 : (0 : Int) ≤ (j : Int) := by omega
     obtain ⟨b1, c1, e1, -, -⟩ := own_form H1.out (by omega)
     obtain ⟨b2, c2, e2, -, -⟩ := own_form H2.out (by omega)
     cases e1
     cases e2
     have g := rows2_get L j hlt
     have C : Hid (∀ W, Below wr.heap.size wr W → (W.cell? ⟨b1, j * 2, none⟩ = some (.int .i64 L[j].1) ∧ W.cell? ⟨b1, j * 2 + 1, none⟩ = some (.int .i64 L[j].2)) ∧ (W.cell? ⟨b2, j * 2, none⟩ = some (.int .i64 L[j].1) ∧ W.cell? ⟨b2, j * 2 + 1, none⟩ = some (.int .i64 L[j].2))) := fun W hW => by
       have q1 := own_below H1.out (HB.out.trans (hW.mono HB.out.size))
       have q2 := own_below H2.out (HB.out.trans (hW.mono HB.out.size))
       refine ⟨⟨?_, ?_⟩, ?_, ?_⟩
       · rw [q1.cellAt (j * 2) (by omega)]; exact g.1
       · rw [q1.cellAt (j * 2 + 1) (by omega)]; exact g.2
       · rw [q2.cellAt (j * 2) (by omega)]; exact g.1
       · rw [q2.cellAt (j * 2 + 1) (by omega)]; exact g.2
     have HB0 := Lib.hid (Below.refl wr.heap.size wr)
     clear g
     generalize L[j].1 = x at *
     generalize L[j].2 = y at *
     go_upto_region 6 with fail
     refine' wp_region_conf 9 (.is _ :: .is _ :: .is _ :: .is _ :: .is _ :: .is _ :: .is _ :: .is _ :: .is _ :: []) (by kernel_rfl) (by kernel_rfl) (by kernel_rfl) (by kernel_rfl) rfl ?main
     case main =>
     iterate 9
       apply obs_step
       · rfl
       · intro w4 hE4 hk4
         have hb4 := below2 HB0.out ((Below.refl wr.heap.size wr).drew.trans hE4)
         obtain ⟨⟨d0, d1⟩, e0, e1⟩ := C.out w4 hb4
         clear hk4 hE4
         go_wp2_with (fail)
         first
         | (refine post_eq ?_ (Below.refl _ _)
            simp only [Act.put, sA, sB, sC]
            try rfl
            done)
         | (refine post_eq ?_ (drewN_below _ _)
            simp only [Act.put, sA, sB, sC]
            try rfl
            done)
         | (refine post_eq ?_ hb5
            simp only [Act.put, sA, sB, sC]
            try rfl
            done)
       · simp only [Act.put, sA, sB, sC]
         rfl
     refine obs_end fun w5 hE9 _ => ?_
     have hb9 : Below wr.heap.size wr w5 := (Below.refl wr.heap.size wr).drew.trans hE9
     clear hE9
     have HB5 := Lib.hid (HB.out.trans (hb9.mono HB.out.size))
     clear hb9 HB0 C
     change wpList _ _ _ _ _ _
     go_wp2
     go_roundw
     case rel => exact ⟨j + 1, by go_num, by omega, HB5.out⟩
     case measure => simp [intOf]; omega
   · obtain rfl : j = L.length := by omega
     go_wp2
     go_ret
     exact ⟨rfl, HB.out⟩
end
end Go.Proofs.YtbplgbkbggmaeaaGreat

namespace Go.Proofs.YtbplgbkbggmaeaaGreat
open Go.RowKit
theorem row_blk {w : World} {g n e size base : Nat} {xs : List Value} (h : Blk w g e xs.toArray) (hn : xs.length = n * size) (hb : base ≤ g) (hm : n ≤ maxLen) : w.ownsRow base e size (.slice (some ⟨g, 0, none⟩) n n) n xs :=
 ⟨hn, .inr ⟨g, n, xs.toArray, rfl, hb, h, Nat.le_refl _, hm, by simpa using hn, by rw [← hn]; simp⟩⟩
theorem row_base {w : World} {b0 e size n : Nat} {v : Value} {xs : List Value} (h : w.ownsRow b0 e size v n xs) : w.ownsRow 0 e size v n xs := by
 obtain ⟨hl, h | ⟨g, cap, cur, rfl, hb, h⟩⟩ := h
 · exact ⟨hl, .inl h⟩
 · exact ⟨hl, .inr ⟨g, cap, cur, rfl, Nat.zero_le _, h⟩⟩
section
variable {w : World}
set_option maxRecDepth 100000 in
set_option maxHeartbeats 8000000 in
theorem rpNew_ok {D : Dk} {FD : Foot} {gd : Nat} (h : IsRef w FD gd D) (ok : D.Ok) (n : Nat) (n1 : 1 ≤ n) (n8 : n ≤ 8) (hr : 3 + 2 * n ≤ D.safe.length) :
   Calls Tryz.prog 6 #[.pointer (some ⟨gd, 0, none⟩), .int .i64 0, .int .i64 n] w fun e w' => e = .returned (.tuple #[.pointer (some ⟨w.heap.size, 0, none⟩), .int .i64 0]) ∧ IsR7 w' FD w.heap.size gd D 0 n 1 ∧ Below w.heap.size w w' := by
 have hb := (Below.refl w.heap.size w).alloc (Nat.le_refl _) (.cells (stoCells gd 0 n 1) 89)
 have hs : IsR7 (w.alloc (.cells (stoCells gd 0 n 1) 89)) FD w.heap.size gd D 0 n 1 :=
   ⟨h.below hb, ok, Blk.new w _ _, fun e => by have := h.lt _ e; omega, by omega, n8⟩
 have HS := Lib.hid hs
 have HB := Lib.hid hb
 obtain ⟨vs, vq, r⟩ := h
 obtain ⟨b, cap, rfl, hcap⟩ := own_head ok r.safe
 obtain ⟨c0, _⟩ := r.cells
 have hle := ok.le
 have hlI : (D.safe.length : Int) ≤ 512 := by omega
 have h1 : (1 : Int) ≤ n := by omega
 have h2 : (n : Int) ≤ 8 := by omega
 have h3 : ¬ ((D.safe.length : Int) - 3 - 2 * n < 0) := by omega
 have h4 : decide (n < 1) = false := by simp; omega
 have h5 : decide (8 < n) = false := by simp; omega
 clear r hcap ok hle n1 n8 hr hs hb
 generalize D.safe.length = m at *
 go_enter Tryz.func6, Tryz.ntmps6
 go_wp2
 go_ret2
 exact ⟨rfl, HS.out, HB.out⟩
set_option maxRecDepth 100000 in
theorem rpNew_bad (gd : Nat) (n : Int) (h : n < 1 ∨ 8 < n) :
   Calls Tryz.prog 6 #[.pointer (some ⟨gd, 0, none⟩), .int .i64 0, .int .i64 n] w fun e w' => e = .returned (.tuple #[.pointer none, .int .i64 1]) ∧ w = w' := by
 by_cases h1 : n < 1
 · clear h
   go_enter Tryz.func6, Tryz.ntmps6
   go_wp2
   go_ret2
   exact ⟨rfl, rfl⟩
 · have h2 : 8 < n := by omega
   clear h
   go_enter Tryz.func6, Tryz.ntmps6
   go_wp2
   go_ret2
   exact ⟨rfl, rfl⟩
set_option maxRecDepth 100000 in
set_option maxHeartbeats 8000000 in
theorem rlNew_ok {D : Dk} {FD : Foot} {gd : Nat} (h : IsRef w FD gd D) (ok : D.Ok) (base n : Nat) (n8 : 8 ≤ n) (n64 : n ≤ 64) (hr : base + n ≤ D.safe.length) :
   Calls Tryz.prog 9 #[.pointer (some ⟨gd, 0, none⟩), .int .i64 base, .int .i64 n] w fun e w' => ∃ g, e = .returned (.tuple #[.pointer (some ⟨g, 0, none⟩), .int .i64 0]) ∧ IsRL w' (fun b => b = w.heap.size ∨ b = g) g gd (Wl.new base n) ∧ w.heap.size ≤ g ∧ Below w.heap.size w w' := by
 have hle := ok.le
 have MY := Lib.hid (rlMay_any h ok base n (by omega) true (by rw [decide_eq_true]; exact ⟨n8, n64, hr⟩))
 have X0 := (Blk.new w 9 #[.string ⟨#[]⟩])
 have B0 := (Below.refl w.heap.size w).alloc (Nat.le_refl _) (.cells #[.string ⟨#[]⟩] 9)
 have cE : rlogCells gd (Wl.new base n) (.slice (some ⟨w.heap.size, 0, none⟩) 1 1) = #[.pointer (some ⟨gd, 0, none⟩), .int .i64 base, .int .i64 n, .int .i64 1, .int .i64 1, .int .i64 1, .slice (some ⟨w.heap.size, 0, none⟩) 1 1] := rfl
 have hB : (Wl.new base n).B = [(⟨#[]⟩ : ByteArray)] := rfl
 have X1 := X0.alloc (.cells (rlogCells gd (Wl.new base n) (.slice (some ⟨w.heap.size, 0, none⟩) 1 1)) 96)
 have L1 := Blk.new (w.alloc (.cells #[.string ⟨#[]⟩] 9)) 96 (rlogCells gd (Wl.new base n) (.slice (some ⟨w.heap.size, 0, none⟩) 1 1))
 have B1 := B0.alloc B0.size (.cells (rlogCells gd (Wl.new base n) (.slice (some ⟨w.heap.size, 0, none⟩) 1 1)) 96)
 have hl : IsRL ((w.alloc (.cells #[.string ⟨#[]⟩] 9)).alloc (.cells (rlogCells gd (Wl.new base n) (.slice (some ⟨w.heap.size, 0, none⟩) 1 1)) 96)) (fun b => b = w.heap.size ∨ b = (w.alloc (.cells #[.string ⟨#[]⟩] 9)).heap.size) (w.alloc (.cells #[.string ⟨#[]⟩] 9)).heap.size gd (Wl.new base n) := by
   refine ⟨Wl.Ok.new n8 n64 (by omega), .slice (some ⟨w.heap.size, 0, none⟩) 1 1, L1, ?_, .inr rfl, fun b hb => .inl (by simpa [Value.ownBlock] using hb.symm), fun b hb => ?_⟩
   · rw [hB]
     exact row_blk (xs := [.string ⟨#[]⟩]) X1 rfl (Nat.zero_le _) (by unfold maxLen; omega)
   · rcases hb with rfl | rfl
     · exact X1.lt
     · exact L1.lt
 have HL := Lib.hid hl
 have HB1 := Lib.hid B1
 have HGE : Hid (w.heap.size ≤ (w.alloc (.cells #[.string ⟨#[]⟩] 9)).heap.size) := B0.size
 rw [cE] at HL HB1
 simp only [World.size_alloc] at HL HGE
 clear h ok n8 n64 hr hle X0 B0 cE hB X1 L1 B1 hl
 go_enter Tryz.func9, Tryz.ntmps9
 go_wp2_with fail
 refine MY.out.mono ?_
 rintro e w1 ⟨rfl, rfl⟩
 go_wp2
 go_ret2
 exact ⟨_, rfl, HL.out, HGE.out, HB1.out⟩
theorem info_rframe : (Tryz.prog.info? 74).map (fun i => (i.zero, i.size, i.bytes)) = some (some (.agg #[.int .i64 0, .int .i64 0, .string ⟨#[]⟩, .bool false, .int .i64 0]), 5, 48) := by kernel_rfl
theorem frqV_rep (k : Nat) : frqV (List.replicate (k + 1) none) = frqV (List.replicate k none) ++ [.int .i64 (-1), .int .i64 0, .string ⟨#[]⟩, .bool false, .int .i64 0] := by
 rw [List.replicate_succ', frqV_snoc]
 rfl
set_option maxRecDepth 100000 in
set_option maxHeartbeats 8000000 in
theorem rqNew_ok (s g c : Nat) (h1 : 1 ≤ c) (h8 : c ≤ 8) :
   Calls Tryz.prog 10 #[.pointer (some ⟨s, 0, none⟩), .pointer (some ⟨g, 0, none⟩), .int .i64 c] w fun e w' => ∃ q gf cap, e = .returned (.pointer (some ⟨q, 0, none⟩)) ∧ (∀ A : A9, A.q = q → A.gf = gf → A.cap = cap → A.s = s → A.g = g → IsQ w' A (List.replicate c none) 0) ∧ w.heap.size ≤ q ∧ w.heap.size ≤ gf ∧ Below w.heap.size w w' := by
 have X0 := Lib.hid (Blk.new w 77 #[.pointer (some ⟨s, 0, none⟩), .pointer (some ⟨g, 0, none⟩), .slice none 0 0, .int .i64 0])
 have B0 := Lib.hid ((Below.refl w.heap.size w).alloc (Nat.le_refl _) (.cells #[.pointer (some ⟨s, 0, none⟩), .pointer (some ⟨g, 0, none⟩), .slice none 0 0, .int .i64 0] 77))
 obtain ⟨i0, hi0, hz0, hz1, hz2⟩ := info_parts info_rframe
 have HI := Lib.hid (And.intro hi0 (And.intro hz0 (And.intro hz1 hz2)))
 have hcI : (c : Int) ≤ 8 := by omega
 have H1 := Lib.hid h1
 have H8 := Lib.hid h8
 clear hi0 hz0 hz1 hz2 h1 h8
 go_enter Tryz.func10, Tryz.ntmps10
 go_wp2_with fail
 go_loopw [8] (fun vj wr => ∃ (k : Nat) (vb : Value), vj = .int .i64 k ∧ k ≤ c ∧ Blk wr w.heap.size 77 #[.pointer (some ⟨s, 0, none⟩), .pointer (some ⟨g, 0, none⟩), vb, .int .i64 0] ∧ wr.ownsRow w.heap.size 74 5 vb k (frqV (List.replicate k none)) ∧ Below w.heap.size w wr) (fun vj _ => c - (intOf vj).toNat)
 case atStart => exact ⟨0, .slice none 0 0, rfl, Nat.zero_le _, X0.out, World.ownsRow_nil _ _ _ _, B0.out⟩
 case round =>
   obtain ⟨k, vb, rfl, hkc, hx, hown, hb⟩ := hrel
   have HX := Lib.hid hx
   have HO := Lib.hid hown
   have HB := Lib.hid hb
   clear hx hown hb X0 B0
   by_cases hlt : k < c
   · have hk1 : (k : Int) < c := by omega
     obtain ⟨va, vc, hvs⟩ := own_slice HO.out
     subst hvs
     have B4 : Below wr.heap.size wr (wr.alloc (.cells #[.int .i64 (-1), .int .i64 0, .string ⟨#[]⟩, .bool false, .int .i64 0] 74)) := (Below.refl _ _).alloc (Nat.le_refl _) _
     have HO4 := Lib.hid (own_below HO.out B4)
     have HB4 := Lib.hid (HB.out.trans (B4.mono HB.out.size))
     have hq4 := HB4.out.size
     have x4 := HX.out.alloc (.cells #[.int .i64 (-1), .int .i64 0, .string ⟨#[]⟩, .bool false, .int .i64 0] 74)
     have X4 := Lib.hid x4
     have c2 : wr.cell? ⟨w.heap.size, 2, none⟩ = some (.slice va k vc) := HX.out.cell 2
     have c62 : (wr.alloc (.cells #[.int .i64 (-1), .int .i64 0, .string ⟨#[]⟩, .bool false, .int .i64 0] 74)).cell? ⟨w.heap.size, 2, none⟩ = some (.slice va k vc) := x4.cell 2
     have z62 := x4.frozen 2
     have lg := x4.lt
     have nq := own_blk HO4.out x4 (by decide)
     obtain ⟨hi0, hz0, hz1, hz2⟩ := id HI.out
     have hk8 : k ≤ 8 := by have := H8.out; omega
     clear B4 x4
     go_wp2_with (at_builtin; refine wpList_append_lies _ rfl (.tmp 22) (.tmp 24) 75 rfl w.heap.size 74 i0 (.agg #[.int .i64 0, .int .i64 0, .string ⟨#[]⟩, .bool false, .int .i64 0]) 5 48 Tryz.underlying75 hi0 hz0 hz1 hz2 rfl (by decide) _ _ _ rfl HO4.out ⟨wr.heap.size, 0, none⟩ 1 1 [.int .i64 (-1), .int .i64 0, .string ⟨#[]⟩, .bool false, .int .i64 0] rfl rfl (World.news_of_block (heap_alloc_new wr _)) (by simp [Value.oneCell']) (by omega) (by simp only [maxLen]; omega) (by omega) hq4 _ rfl ?_)
     intro gg cap w6 hown hgrow hat hlt6
     have z66 := (hgrow.frozen_far ⟨w.heap.size, 2, none⟩ lg (Ne.symm nq)).trans z62
     have c66 := (hgrow.cell_far ⟨w.heap.size, 2, none⟩ lg (Ne.symm nq)).trans c62
     have x6 : Blk w6 w.heap.size 77 #[.pointer (some ⟨s, 0, none⟩), .pointer (some ⟨g, 0, none⟩), .slice va k vc, .int .i64 0] := (hgrow.block w.heap.size lg fun e => nq e.symm).trans X4.out
     have HB6 := Lib.hid (show Below w.heap.size w w6 from HB4.out.trans ⟨hgrow.os, hgrow.tape, hgrow.output, hgrow.size, fun b hb => hgrow.block b (Nat.lt_of_lt_of_le hb hq4) fun e => by have := (HO4.out.lt b e.symm).1; omega⟩)
     have hne := own_blk hown x6 (by decide)
     have HX7 : Hid (Blk (w6.setCell ⟨w.heap.size, 2, none⟩ (.slice (some ⟨gg, 0, none⟩) (k + 1) cap)) w.heap.size 77 #[.pointer (some ⟨s, 0, none⟩), .pointer (some ⟨g, 0, none⟩), .slice (some ⟨gg, 0, none⟩) (k + 1) cap, .int .i64 0]) := x6.set 2 _
     have HO7 : Hid ((w6.setCell ⟨w.heap.size, 2, none⟩ (.slice (some ⟨gg, 0, none⟩) (k + 1) cap)).ownsRow w.heap.size 74 5 (.slice (some ⟨gg, 0, none⟩) (k + 1) cap) (k + 1) (frqV (List.replicate (k + 1) none))) := by
       rw [frqV_rep]
       exact own_keep hown fun b hb => heap_setCell_other w6 ⟨w.heap.size, 2, none⟩ b _ fun e => hne (by rw [hb]; exact congrArg some e)
     have HB7 : Hid (Below w.heap.size w (w6.setCell ⟨w.heap.size, 2, none⟩ (.slice (some ⟨gg, 0, none⟩) (k + 1) cap))) :=
       ⟨HB6.out.os, HB6.out.tape, HB6.out.output, by have := HB6.out.size; simpa [World.setCell] using this, fun b hb => (heap_setCell_other w6 ⟨w.heap.size, 2, none⟩ b _ (show b ≠ w.heap.size by omega)).trans (HB6.out.block b hb)⟩
     clear hown hgrow hat HO4 HB4 hlt6 hq4 x6 hne HB6 X4 c62 z62 lg nq HX HO HB hi0 hz0 hz1 hz2 c2
     go_wp2
     go_roundw
     case rel => exact ⟨k + 1, _, by go_num, by omega, HX7.out, HO7.out, HB7.out⟩
     case measure => simp [intOf]; omega
   · obtain rfl : k = c := by omega
     obtain ⟨gf, cap, rfl, -, -⟩ := own_form HO.out H1.out
     have hcc : decide (k < k) = false := by simp
     have hgf : w.heap.size ≤ gf := (HO.out.lt gf rfl).1
     have HGF := Lib.hid hgf
     clear hgf
     go_wp2
     go_ret
     refine ⟨_, gf, cap, rfl, fun A e1 e2 e3 e4 e5 => ?_, Nat.le_refl _, HGF.out, HB.out⟩
     refine ⟨?_, ?_⟩
     · unfold poolqCells
       rw [e1, e2, e3, e4, e5, List.length_replicate]
       exact HX.out
     · rw [e2, e3, List.length_replicate]
       exact row_base HO.out
end
end Go.Proofs.YtbplgbkbggmaeaaGreat
