/- Texts that belong together, joined: RpI, RpJ. -/
import Derived.Test.YtbplgbkbggmaeaaGreatKrpg
import Derived.Test.YtbplgbkbggmaeaaGreatKwalb
import Derived.Test.YtbplgbkbggmaeaaGreatKrp
import Derived.Test.YtbplgbkbggmaeaaGreatKpo
namespace Go.Proofs.YtbplgbkbggmaeaaGreat
open Go.RowKit
section
variable {w : World} {F : Foot} {g gd : Nat} {l l' : Wl} {v : Value} {r : Rc}
theorem RLR.other {vb : Value} {n : Nat} {bs : List ByteArray} (h : RLR w F g gd l vb n bs) (hb : l'.base = l.base) (hs : l'.size = l.size) (hl : l'.low = l.low) (hf : l'.first = l.first) (he : l'.epoch = l.epoch) : RLR w F g gd l' vb n bs := by
 refine ⟨?_, h.rows, h.fg, h.fv, h.lt⟩
 have := h.head
 unfold rlogCells at this ⊢
 rw [hb, hs, hl, hf, he]
 exact this
theorem lay_body (r : Rc) : (⟨(lay r).toArray⟩ : ByteArray) = bodyS [r] := str_ext (by rw [bodyS_data]; simp [body])
theorem lay_size (r : Rc) : (⟨(lay r).toArray⟩ : ByteArray).size = (lay r).length := by simp [ByteArray.size]
theorem body_app (x : List Rc) (r : Rc) : bodyS x ++ (⟨(lay r).toArray⟩ : ByteArray) = bodyS (x ++ [r]) := str_ext (by rw [ByteArray.data_append, Array.toList_append, bodyS_data, bodyS_data, body_snoc])
theorem rlAppend_any (h : IsRL w F g gd l) (hv : IsRec w v r) (hf : Fit r) :
   Calls Tryz.prog 20 #[.pointer (some ⟨g, 0, none⟩), v] w fun e w' => e = .returned (.tuple #[.int .i64 (l.app r).1, .int .i64 (l.app r).2.1]) ∧ ∃ F', IsRL w' F' g gd (l.app r).2.2 ∧ Step F F' w w' := by
 obtain ⟨ok, vb, rr⟩ := h
 by_cases hm : May r
 · have hok := ok.put hm (lay_short hm)
   rw [Wl.app_may hm]
   simp only
   by_cases hi : l.first = l.end_
   · have hj : ¬ l.joins r := fun hj => by have := hj.1; omega
     rw [Wl.B_idle hi] at rr
     rw [show (l.secs.map bodyS ++ [(⟨#[]⟩ : ByteArray)]).length = l.secs.length + 1 by simp] at rr
     by_cases hr : l.secs.length < l.size
     · have hpu : l.put r = { l with secs := l.secs ++ [[r]] } := by unfold Wl.put; rw [if_neg hj, if_pos hr]
       have hpe : l.putE r = 0 := by unfold Wl.putE; rw [if_neg hj, if_pos hr]
       have hpa : l.putAt r = l.end_ * 128 := by unfold Wl.putAt; rw [if_neg hj, if_pos hr]
       refine (rlAppend_first rr (by simp) hv hf hm ok.lm ok.s64 hr).mono ?_
       rintro e w' ⟨rfl, F', vb', hrl, hs⟩
       rw [hpe, hpa]
       refine ⟨rfl, F', ⟨hok, vb', ?_⟩, hs⟩
       have hB : (l.put r).B = l.secs.map bodyS ++ [(⟨(lay r).toArray⟩ : ByteArray)] := by
         rw [Wl.B_open (by rw [hpu]; unfold Wl.end_ at *; simp; omega), hpu, lay_body]; simp
       rw [hB, show (l.secs.map bodyS ++ [(⟨(lay r).toArray⟩ : ByteArray)]).length = l.secs.length + 1 by simp]
       exact hrl.other (by rw [hpu]) (by rw [hpu]) (by rw [hpu]) (by rw [hpu]) (by rw [hpu])
     · have hpu : l.put r = l := by unfold Wl.put; rw [if_neg hj, if_neg hr]
       have hpe : l.putE r = 5 := by unfold Wl.putE; rw [if_neg hj, if_neg hr]
       have hpa : l.putAt r = 0 := by unfold Wl.putAt; rw [if_neg hj, if_neg hr]
       refine (rlAppend_full1 rr (by simp) hv hf hm ok.lm ok.s64 (by have := ok.len; omega)).mono ?_
       rintro e w' ⟨rfl, F', vb', hrl, hs⟩
       rw [hpe, hpa, hpu]
       refine ⟨rfl, F', ⟨ok, vb', ?_⟩, hs⟩
       rw [Wl.B_idle hi, show (l.secs.map bodyS ++ [(⟨#[]⟩ : ByteArray)]).length = l.secs.length + 1 by simp]
       exact hrl
   · have hpos : 0 < l.secs.length := by have := ok.fe; have := ok.fl; unfold Wl.end_ at *; omega
     obtain ⟨i, x, e⟩ := Wl.snoc_of hpos
     have hlast : l.secs.getLastD [] = x := by rw [e, Wl.lastD_snoc]
     have hxs := ok.sec x (by rw [e]; simp)
     have hx0 := body_pos hxs.2.1 hxs.1
     have hu : (bodyS x).size = (body x).length := bodyS_size x
     have hlen : l.secs.length = i.length + 1 := by rw [e]; simp
     have hend : l.end_ = l.low + (i.length + 1) := by unfold Wl.end_; rw [hlen]
     rw [Wl.B_open hi, e, List.map_append, List.map_singleton, show (i.map bodyS ++ [bodyS x]).length = i.length + 1 by simp] at rr
     have hkl : i.length < l.size := by have := ok.len; omega
     by_cases hj : l.joins r
     · have hpu : l.put r = { l with secs := i ++ [x ++ [r]] } := by unfold Wl.put; rw [if_pos hj, hlast]; simp [e]
       have hpe : l.putE r = 0 := by unfold Wl.putE; rw [if_pos hj]
       have hpa : l.putAt r = (l.low + i.length) * 128 + (bodyS x).size := by unfold Wl.putAt; rw [if_pos hj, hlast, hend, hu]; congr 2
       have hj2 := hj.2
       rw [hlast] at hj2
       refine (rlAppend_join rr (by simp) hv hf hm ok.lm ok.s64 hkl (by rw [hu]; exact hx0) (by rw [hu, lay_size]; exact hj2)).mono ?_
       rintro e' w' ⟨rfl, F', vb', hrl, hs⟩
       rw [hpe, hpa]
       refine ⟨rfl, F', ⟨hok, vb', ?_⟩, hs⟩
       have hB : (l.put r).B = i.map bodyS ++ [bodyS x ++ (⟨(lay r).toArray⟩ : ByteArray)] := by
         rw [Wl.B_open (by rw [hpu]; unfold Wl.end_ at *; simp; omega), hpu, body_app]; simp
       rw [hB, show (i.map bodyS ++ [bodyS x ++ (⟨(lay r).toArray⟩ : ByteArray)]).length = i.length + 1 by simp]
       exact hrl.other (by rw [hpu]) (by rw [hpu]) (by rw [hpu]) (by rw [hpu]) (by rw [hpu])
     · have hov : 112 < (body x).length + (lay r).length := by
         unfold Wl.joins at hj
         rw [hlast] at hj
         have := ok.fe
         omega
       by_cases hr : l.secs.length < l.size
       · have hpu : l.put r = { l with secs := l.secs ++ [[r]] } := by unfold Wl.put; rw [if_neg hj, if_pos hr]
         have hpe : l.putE r = 0 := by unfold Wl.putE; rw [if_neg hj, if_pos hr]
         have hpa : l.putAt r = (l.low + (i.length + 1)) * 128 := by unfold Wl.putAt; rw [if_neg hj, if_pos hr, hend]
         refine (rlAppend_new rr (by simp) hv hf hm ok.lm ok.s64 (by omega) (by rw [hu]; exact hx0) (by rw [hu]; exact hxs.2.2) (by rw [hu, lay_size]; exact hov)).mono ?_
         rintro e' w' ⟨rfl, F', vb', hrl, hs⟩
         rw [hpe, hpa]
         refine ⟨rfl, F', ⟨hok, vb', ?_⟩, hs⟩
         have hB : (l.put r).B = i.map bodyS ++ [bodyS x] ++ [(⟨(lay r).toArray⟩ : ByteArray)] := by
           rw [Wl.B_open (by rw [hpu]; unfold Wl.end_; simp; have := ok.fe; unfold Wl.end_ at this; omega), hpu, lay_body, e]; simp
         rw [hB, show (i.map bodyS ++ [bodyS x] ++ [(⟨(lay r).toArray⟩ : ByteArray)]).length = i.length + 2 by simp]
         exact hrl.other (by rw [hpu]) (by rw [hpu]) (by rw [hpu]) (by rw [hpu]) (by rw [hpu])
       · have hpu : l.put r = l := by unfold Wl.put; rw [if_neg hj, if_neg hr]
         have hpe : l.putE r = 5 := by unfold Wl.putE; rw [if_neg hj, if_neg hr]
         have hpa : l.putAt r = 0 := by unfold Wl.putAt; rw [if_neg hj, if_neg hr]
         refine (rlAppend_full2 rr (by simp) hv hf hm ok.lm ok.s64 (by have := ok.len; omega) (by rw [hu]; exact hx0) (by rw [hu]; exact hxs.2.2) (by rw [hu, lay_size]; exact hov)).mono ?_
         rintro e' w' ⟨rfl, F', vb', hrl, hs⟩
         rw [hpe, hpa, hpu]
         refine ⟨rfl, F', ⟨ok, vb', ?_⟩, hs⟩
         rw [Wl.B_open hi, e, List.map_append, List.map_singleton, show (i.map bodyS ++ [bodyS x]).length = i.length + 1 by simp]
         exact hrl
 · rw [Wl.app_not hm]
   refine (rlAppend_bad rr hv hf hm).mono ?_
   rintro e w' ⟨rfl, F', vb', hrl, hs⟩
   exact ⟨rfl, F', ⟨ok, vb', hrl⟩, hs⟩
end
end Go.Proofs.YtbplgbkbggmaeaaGreat

namespace Go.Proofs.YtbplgbkbggmaeaaGreat
open Go.RowKit
structure SysR (w : World) (FD FL : Foot) (g gd : Nat) (D : Dk) (l : Wl) : Prop where
 disk : IsRef w FD gd D
 dok : D.Ok
 log : IsRL w FL g gd l
 apart : ∀ b, FD b → ¬ FL b
namespace SysR
variable {w w' : World} {FD FD' FL FL' : Foot} {g gd : Nat} {D D' : Dk} {l l' : Wl}
theorem more (h : SysR w FD FL g gd D l) (hb : Below w.heap.size w w') : SysR w' FD FL g gd D l := ⟨h.disk.below hb, h.dok, h.log.below hb, h.apart⟩
theorem onDisk (h : SysR w FD FL g gd D l) (hd : IsRef w' FD' gd D') (ho : D'.Ok) (hs : Step FD FD' w w') : SysR w' FD' FL g gd D' l ∧ Step (Both FD FL) (Both FD' FL) w w' := by
 refine ⟨⟨hd, ho, h.log.keep (fun b hb => hs.block b (h.log.lt b hb) fun e => h.apart b e hb) hs.size, fun b hb hl => ?_⟩, ⟨hs.os, hs.tape, hs.output, hs.size, fun b hb hf => hs.block b hb fun e => hf (.inl e), fun b hb => ?_⟩⟩
 · rcases hs.foot b hb with hb | hb
   · exact h.apart b hb hl
   · have := h.log.lt b hl; omega
 · rcases hb with hb | hb
   · exact (hs.foot b hb).elim (fun e => .inl (.inl e)) .inr
   · exact .inl (.inr hb)
theorem onLog (h : SysR w FD FL g gd D l) (hd : IsRL w' FL' g gd l') (hs : Step FL FL' w w') : SysR w' FD FL' g gd D l' ∧ Step (Both FD FL) (Both FD FL') w w' := by
 refine ⟨⟨h.disk.keep (fun b hb => hs.block b (h.disk.lt b hb) (h.apart b hb)) hs.size, h.dok, hd, fun b hb hl => ?_⟩, ⟨hs.os, hs.tape, hs.output, hs.size, fun b hb hf => hs.block b hb fun e => hf (.inr e), fun b hb => ?_⟩⟩
 · rcases hs.foot b hl with hl | hl
   · exact h.apart b hb hl
   · have := h.disk.lt b hb; omega
 · rcases hb with hb | hb
   · exact .inl (.inl hb)
   · exact (hs.foot b hb).elim (fun e => .inl (.inr e)) .inr
end SysR
def FlushR (w : World) (FD FL : Foot) (g gd : Nat) (x : Dk × Wl × Nat) (e : Ending) (w' : World) : Prop :=
 e = .returned (.int .i64 x.2.2) ∧ ∃ FD' FL', SysR w' FD' FL' g gd x.1 x.2.1 ∧ Step (Both FD FL) (Both FD' FL') w w'
section
variable {w : World} {FD FL : Foot} {g gd : Nat} {D : Dk} {l : Wl}
set_option maxRecDepth 100000 in
set_option maxHeartbeats 8000000 in
theorem rlFlush_idle (h : SysR w FD FL g gd D l) (he : l.first = l.end_) :
   Calls Tryz.prog 73 #[.pointer (some ⟨g, 0, none⟩)] w (FlushR w FD FL g gd (D, l, 0)) := by
 have HS := Lib.hid h
 obtain ⟨ok, vb, r⟩ := h.log
 rw [Wl.B_idle he, show (l.secs.map bodyS ++ [(⟨#[]⟩ : ByteArray)]).length = l.secs.length + 1 by simp] at r
 obtain ⟨g2, cap, rfl, hcap, hcm⟩ := own_form r.rows (by omega)
 have hfl : (l.first : Int) - (l.low : Int) = (l.secs.length : Int) := by rw [he]; unfold Wl.end_; omega
 have C : Hid (∀ W, Below w.heap.size w W → W.cell? ⟨g, 3, none⟩ = some (.int .i64 l.low) ∧ W.cell? ⟨g, 4, none⟩ = some (.int .i64 l.first) ∧ W.cell? ⟨g, 6, none⟩ = some (.slice (some ⟨g2, 0, none⟩) (l.secs.length + 1) cap) ∧ W.cell? ⟨g2, l.secs.length, none⟩ = some (.string ⟨#[]⟩)) := fun W hW => by
   have r := r.below hW
   obtain ⟨_, _, _, c3, c4, _, c6⟩ := r.cells
   refine ⟨c3, c4, c6, ?_⟩
   have cy := r.rows.cellAt l.secs.length (by omega)
   have e := strs_last (l.secs.map bodyS) ⟨#[]⟩
   rw [List.length_map] at e
   rw [e] at cy
   simpa using cy
 have h1 : (l.low : Int) ≤ 2147483647 := by have := ok.lm; omega
 have h2 : (l.first : Int) ≤ 2147483711 := by have := ok.lm; have := ok.len; have := ok.s64; rw [he]; unfold Wl.end_; omega
 have h3 : (l.secs.length : Int) ≤ 64 := by have := ok.len; have := ok.s64; omega
 have h4 : (l.secs.length : Int) < (l.secs.length : Int) + 1 := by omega
 have HB0 := Lib.hid (Below.refl w.heap.size w)
 clear h he r hcap hcm ok
 generalize l.secs.length = y at *
 go_enter Tryz.func73, Tryz.ntmps73
 go_upto_region 1 with fail
 refine' wp_region_conf 10 (.is _ :: .is _ :: .is _ :: .is _ :: .is _ :: .is _ :: .is _ :: .is _ :: .is _ :: .is _ :: []) (by kernel_rfl) (by kernel_rfl) (by kernel_rfl) (by kernel_rfl) rfl ?main
 case main =>
 iterate 10
   apply obs_step
   · rfl
   · intro w4 hE4 hk4
     have hb4 := below2 HB0.out ((Below.refl w.heap.size w).drew.trans hE4)
     obtain ⟨d3, d4, d6, dy⟩ := C.out w4 hb4
     clear hk4 hE4
     go_wp2_with (fail)
     first
     | (refine post_eq ?_ (Below.refl _ _)
        simp only [Act.put, sA, sB, sC]
        try rfl
        done)
     | (refine post_eq ?_ (drewN_below _ _)
        simp only [Act.put, sA, sB, sC]
        try rfl
        done)
     | (refine post_eq ?_ hb5
        simp only [Act.put, sA, sB, sC]
        try rfl
        done)
   · simp only [Act.put, sA, sB, sC]
     rfl
 refine obs_end fun w5 hE9 _ => ?_
 have hb9 : Below w.heap.size w w5 := (Below.refl w.heap.size w).drew.trans hE9
 clear hE9
 have HB5 := Lib.hid hb9
 clear hb9
 change wpList _ _ _ _ _ _
 obtain ⟨c3, c4, c6, cy⟩ := C.out _ HB5.out
 go_wp2
 go_ret
 exact ⟨rfl, FD, FL, HS.out.more HB5.out, .ofBelow HB5.out⟩
theorem flush_split {l : Wl} (ok : l.Ok) (hne : ¬ l.first = l.end_) : ∃ m, l.secs.length = m + 1 ∧ l.end_ = l.low + m + 1 ∧ m ≤ 63 := by
 have := ok.fe
 have := ok.fl
 have := ok.len
 have := ok.s64
 unfold Wl.end_ at *
 exact ⟨l.secs.length - 1, by omega, by omega, by omega⟩
theorem sec_pos {l : Wl} (ok : l.Ok) {j : Nat} (hj : j < l.secs.length) : 0 < (bodyS (l.secs.getD j [])).size ∧ (bodyS (l.secs.getD j [])).size ≤ 112 := by
 have hmem : l.secs.getD j [] ∈ l.secs := by
   rw [List.getD_eq_getElem?_getD, List.getElem?_eq_getElem hj]
   exact List.getElem_mem hj
 have h := ok.sec _ hmem
 rw [bodyS_size]
 exact ⟨body_pos h.2.1 h.1, h.2.2⟩
theorem sec_cell {l : Wl} {n cap g2 : Nat} (r : RLR w FL g gd l (.slice (some ⟨g2, 0, none⟩) n cap) n (l.secs.map bodyS)) (hn : l.secs.length = n) {j : Nat} (hj : j < n) : w.cell? ⟨g2, j, none⟩ = some (.string (bodyS (l.secs.getD j []))) := by
 rw [r.rows.cellAt j (by omega)]
 simp only [strsV, List.map_map, List.getElem?_map]
 rw [List.getD_eq_getElem?_getD, List.getElem?_eq_getElem (by omega)]
 rfl
theorem place_int (l : Wl) (k : Nat) : ((l.place k : Nat) : Int) = (l.base : Int) + (k : Int) % (l.size : Int) := by unfold Wl.place; rw [Int.natCast_add, Int.natCast_emod]
set_option maxRecDepth 100000 in
set_option maxHeartbeats 32000000 in
theorem rlFlush_go (h : SysR w FD FL g gd D l) (hne : ¬ l.first = l.end_) (hep : l.epoch < 4294967296) (hw : D.waits.length ≤ 1000000) :
   Calls Tryz.prog 73 #[.pointer (some ⟨g, 0, none⟩)] w (FlushR w FD FL g gd (l.flush D)) := by
 have hfl : l.flush D = if (l.writes D l.first (l.end_ - l.first)).2 ≠ 0 then ((l.writes D l.first (l.end_ - l.first)).1, l, (l.writes D l.first (l.end_ - l.first)).2) else if (l.writes D l.first (l.end_ - l.first)).1.syncE ≠ 0 then ((l.writes D l.first (l.end_ - l.first)).1.sync, l, (l.writes D l.first (l.end_ - l.first)).1.syncE) else ((l.writes D l.first (l.end_ - l.first)).1.sync, { l with first := l.end_ }, 0) := by
   unfold Wl.flush; rw [if_neg fun e => hne e.symm]
 have HFL := Lib.hid hfl
 have HS := Lib.hid h
 obtain ⟨ok, vb, r⟩ := h.log
 have OK := Lib.hid ok
 obtain ⟨m, hm1, hm2, hm63⟩ := flush_split ok hne
 have HM := Lib.hid (And.intro hm1 hm2)
 have HM63 := Lib.hid hm63
 have hBl : l.B = l.secs.map bodyS := Wl.B_open hne
 have HB := Lib.hid hBl
 -- the log's blocks, in any world that it stands in
 have LOG : Hid (∀ W FD1 D1, SysR W FD1 FL g gd D1 l → ∃ g2 cap, RLR W FL g gd l (.slice (some ⟨g2, 0, none⟩) (m + 1) cap) (m + 1) (l.secs.map bodyS)) := fun W FD1 D1 hS => by
   obtain ⟨_, vb, r⟩ := hS.log
   rw [hBl, List.length_map, hm1] at r
   obtain ⟨g2, cap, rfl, _, _⟩ := own_form r.rows (by omega)
   exact ⟨g2, cap, r⟩
 have hf0 := ok.fl
 have hfe : l.first < l.end_ := by have := ok.fe; omega
 have OPN : Hid (∀ W FD1 D1, SysR W FD1 FL g gd D1 l → Calls Tryz.prog 54 #[.pointer (some ⟨g, 0, none⟩)] W (Peeks W (.int .i64 ((l.low : Int) + m)))) := fun W FD1 D1 hS => by
   obtain ⟨g2, cap, r⟩ := LOG.out W FD1 D1 hS
   have := rlOpen_any r ok.lm (by omega)
   rw [Int.natCast_add] at this
   exact this
 have PK : Hid (∀ k W, l.low ≤ k → k < l.end_ → Calls Tryz.prog 97 #[.agg #[.int .u32 (l.epoch : Nat), .int .u32 (k : Nat), .string (bodyS (l.secs.getD (k - l.low) []))]] W fun e w' => e = .returned (.string (l.sector k)) ∧ Below W.heap.size W w') := fun k W h1 h2 =>
   refPack_any l.epoch k (bodyS (l.secs.getD (k - l.low) [])) W hep (by have := ok.lm; omega) (sec_pos ok (by omega)).2
 have BS : Hid (∀ k, l.low ≤ k → k < l.end_ → 0 < (bodyS (l.secs.getD (k - l.low) [])).size) := fun k h1 h2 => (sec_pos ok (by omega)).1
 have hlow : (l.low : Int) ≤ 2147483647 := by have := ok.lm; omega
 have hbase : (l.base : Int) ≤ 512 := by have := ok.b0; omega
 have hsz : (l.size : Int) ≤ 64 := by have := ok.s64; omega
 have hsz8 : (8 : Int) ≤ l.size := by have := ok.s8; omega
 have hmI : (m : Int) ≤ 63 := by omega
 have u1 : IntKind.u32.wrap (l.epoch : Int) = l.epoch := by rw [IntKind.wrap_u32]; omega
 have hend31 : l.end_ ≤ 2147483711 := by have := ok.lm; omega
 -- the first one
 obtain ⟨g2, cap, rr⟩ := LOG.out w FD D h
 have C0 : Hid (∀ W, Below w.heap.size w W → W.cell? ⟨g, 3, none⟩ = some (.int .i64 l.low) ∧ W.cell? ⟨g, 4, none⟩ = some (.int .i64 l.first) ∧ W.cell? ⟨g, 6, none⟩ = some (.slice (some ⟨g2, 0, none⟩) (m + 1) cap) ∧ W.cell? ⟨g2, l.first - l.low, none⟩ = some (.string (bodyS (l.secs.getD (l.first - l.low) [])))) := fun W hW =>
   have r := rr.below hW
   ⟨r.cells.2.2.2.1, r.cells.2.2.2.2.1, r.cells.2.2.2.2.2.2, sec_cell r hm1 (by omega)⟩
 have hb1 := toList_pos (BS.out l.first hf0 hfe)
 have hidx : (l.first : Int) - (l.low : Int) < (m : Int) + 1 := by omega
 have hidx0 : (0 : Int) ≤ (l.first : Int) - (l.low : Int) := by omega
 have htn : ((l.first : Int) - (l.low : Int)).toNat = l.first - l.low := by omega
 have hfI : (l.first : Int) ≤ 2147483711 := by omega
 have HB0 := Lib.hid (Below.refl w.heap.size w)
 have HF0 := Lib.hid hf0
 have HFE := Lib.hid hfe
 have HE31 := Lib.hid hend31
 have HX64 : Hid (l.end_ ≤ l.first + 64) := by show _ ≤ _; omega
 clear hfl r ok h hne hm1 hm2 hm63 hBl rr hf0 hfe hep hend31
 generalize bodyS (l.secs.getD (l.first - l.low) []) = b0 at *
 go_enter Tryz.func73, Tryz.ntmps73
 go_upto_region 1 with fail
 refine' wp_region_conf 10 (.is _ :: .is _ :: .is _ :: .is _ :: .is _ :: .is _ :: .is _ :: .is _ :: .is _ :: .is _ :: []) (by kernel_rfl) (by kernel_rfl) (by kernel_rfl) (by kernel_rfl) rfl ?main
 case main =>
 iterate 10
   apply obs_step
   · rfl
   · intro w4 hE4 hk4
     have hb4 := below2 HB0.out ((Below.refl w.heap.size w).drew.trans hE4)
     obtain ⟨d3, d4, d6, dy⟩ := C0.out w4 hb4
     clear hk4 hE4
     go_wp2_with (fail)
     first
     | (refine post_eq ?_ (Below.refl _ _)
        simp only [Act.put, sA, sB, sC]
        try rfl
        done)
     | (refine post_eq ?_ (drewN_below _ _)
        simp only [Act.put, sA, sB, sC]
        try rfl
        done)
     | (refine post_eq ?_ hb5
        simp only [Act.put, sA, sB, sC]
        try rfl
        done)
   · simp only [Act.put, sA, sB, sC]
     rfl
 refine obs_end fun w5 hE9 _ => ?_
 have hb9 : Below w.heap.size w w5 := (Below.refl w.heap.size w).drew.trans hE9
 clear hE9
 have HB5 := Lib.hid hb9
 clear hb9 HB0
 change wpList _ _ _ _ _ _
 obtain ⟨c3, c4, c6, cy⟩ := C0.out _ HB5.out
 have S0 := Lib.hid (HS.out.more HB5.out)
 have Q0 := Lib.hid (Step.ofBelow (F := Both FD FL) HB5.out)
 clear C0 HS
 go_wp2_with fail
 clear c3 c4 c6 cy HB5 hidx hidx0 htn hfI hb1
 generalize hf : l.first = f at *
 have HF := Lib.hid hf
 generalize hx : l.end_ = x at *
 have HX := Lib.hid hx
 clear hf hx
 go_loopw [4] (fun vk wr => ∃ (k : Nat) (D1 : Dk) (FD1 : Foot), vk = .int .i64 k ∧ f ≤ k ∧ k ≤ x ∧ SysR wr FD1 FL g gd D1 l ∧ Step (Both FD FL) (Both FD1 FL) w wr ∧ l.writes D f (x - f) = l.writes D1 k (x - k) ∧ D1.waits.length ≤ 1000000 + (k - f)) (fun vk _ => x - (intOf vk).toNat)
 case atStart => exact ⟨f, D, FD, rfl, Nat.le_refl _, Nat.le_of_lt HFE.out, S0.out, Q0.out, rfl, by omega⟩
 case round =>
   obtain ⟨k, D1, FD1, rfl, hk1, hk2, hS, hQ, hwr, hwl⟩ := hrel
   have SS := Lib.hid hS
   have QQ := Lib.hid hQ
   have HWR := Lib.hid hwr
   have OPk := Lib.hid (OPN.out wr FD1 D1 hS)
   clear hS hQ hwr S0 Q0
   have hxm : (x : Int) = (l.low : Int) + m + 1 := by have := HM.out.2; omega
   have hk31 : (k : Int) ≤ 2147483711 := by have := HE31.out; omega
   by_cases hlt : k < x
   · have hkx : (k : Int) ≤ (l.low : Int) + m := by omega
     have hxk : x - k = (x - (k + 1)) + 1 := by omega
     have hw1 := Dk.write_waits D1 (l.place k) (l.sector k)
     have HXK := Lib.hid hxk
     have hlk : l.low ≤ k := by have := HF0.out; omega
     have hkm : k - l.low < m + 1 := by have := HM.out.2; omega
     have hb1 := toList_pos (BS.out k hlk hlt)
     have PKk := Lib.hid (fun W => PK.out k W hlk hlt)
     have okw := SS.out.dok.write (l.place k) (l.sector k)
     have OKW := Lib.hid okw
     have WRk : Hid (∀ W, Below wr.heap.size wr W → Calls Tryz.prog 96 #[.pointer (some ⟨gd, 0, none⟩), .int .i64 ((l.base : Int) + (k : Int) % (l.size : Int)), .string (l.sector k)] W fun e w' => e = .returned (.int .i64 (D1.writeE (l.place k) (l.sector k))) ∧ ∃ F', IsRef w' F' gd (D1.write (l.place k) (l.sector k)) ∧ Step FD1 F' W w') := fun W hW => by
       rw [← place_int]
       exact refWrite_any SS.out.dok (SS.out.disk.below hW) ((l.place k : Nat) : Int) (l.sector k) (by have := HX64.out; omega)
     obtain ⟨g3, cap3, rr⟩ := LOG.out wr FD1 D1 SS.out
     have C1 : Hid (∀ W, Below wr.heap.size wr W → W.cell? ⟨g, 0, none⟩ = some (.pointer (some ⟨gd, 0, none⟩)) ∧ W.cell? ⟨g, 1, none⟩ = some (.int .i64 l.base) ∧ W.cell? ⟨g, 2, none⟩ = some (.int .i64 l.size) ∧ W.cell? ⟨g, 3, none⟩ = some (.int .i64 l.low) ∧ W.cell? ⟨g, 5, none⟩ = some (.int .i64 l.epoch) ∧ W.cell? ⟨g, 6, none⟩ = some (.slice (some ⟨g3, 0, none⟩) (m + 1) cap3) ∧ W.cell? ⟨g3, k - l.low, none⟩ = some (.string (bodyS (l.secs.getD (k - l.low) [])))) := fun W hW =>
       have r := rr.below hW
       ⟨r.cells.1, r.cells.2.1, r.cells.2.2.1, r.cells.2.2.2.1, r.cells.2.2.2.2.2.1, r.cells.2.2.2.2.2.2, sec_cell r HM.out.1 hkm⟩
     have hidx : (k : Int) - (l.low : Int) < (m : Int) + 1 := by omega
     have hidx0 : (0 : Int) ≤ (k : Int) - (l.low : Int) := by omega
     have htn : ((k : Int) - (l.low : Int)).toNat = k - l.low := by omega
     have u2 : IntKind.u32.wrap (k : Int) = k := by rw [IntKind.wrap_u32]; omega
     have hm0 : 0 ≤ (k : Int) % (l.size : Int) := Int.emod_nonneg _ (by omega)
     have hm1 : (k : Int) % (l.size : Int) < 64 := by have := Int.emod_lt_of_pos (k : Int) (show (0 : Int) < l.size by omega); omega
     clear rr hxk hlk hkm okw
     generalize bodyS (l.secs.getD (k - l.low) []) = b at *
     have HW1 := Lib.hid hw1
     clear hw1
     go_wp2_with fail
     refine OPk.out.mono ?_
     rintro e w2 ⟨rfl, nd, rfl⟩
     have HBk := Lib.hid (drewN_below wr nd)
     clear OPk
     go_upto_region 7 with fail
     generalize hw6 : wr.drewN nd = w6 at *
     clear hw6
     refine' wp_region_conf 13 (.is _ :: .is _ :: .is _ :: .is _ :: .is _ :: .is _ :: .is _ :: .is _ :: .is _ :: .is _ :: .is _ :: .is _ :: .is _ :: []) (by kernel_rfl) (by kernel_rfl) (by kernel_rfl) (by kernel_rfl) rfl ?main
     case main =>
     iterate 13
       apply obs_step
       · rfl
       · intro w4 hE4 hk4
         have hb4 := below2 HBk.out ((Below.refl w6.heap.size w6).drew.trans hE4)
         obtain ⟨d0, d1, d2, d3, d5, d6, dy⟩ := C1.out w4 hb4
         clear hk4 hE4
         go_wp2_with (fail)
         first
         | (refine post_eq ?_ (Below.refl _ _)
            simp only [Act.put, sA, sB, sC]
            try rfl
            done)
         | (refine post_eq ?_ (drewN_below _ _)
            simp only [Act.put, sA, sB, sC]
            try rfl
            done)
         | (refine post_eq ?_ hb5
            simp only [Act.put, sA, sB, sC]
            try rfl
            done)
       · simp only [Act.put, sA, sB, sC]
         rfl
     refine obs_end fun w7 hE9 _ => ?_
     have hb9 : Below w6.heap.size w6 w7 := (Below.refl w6.heap.size w6).drew.trans hE9
     clear hE9
     have HB7 := Lib.hid (below2 HBk.out hb9)
     clear hb9 HBk
     change wpList _ _ _ _ _ _
     go_upto_region 8 with fail
     refine' wp_region_conf 36 (.is _ :: .is _ :: .is _ :: .is _ :: .is _ :: .is _ :: .is _ :: .is _ :: .is _ :: .is _ :: .is _ :: .is _ :: .is _ :: .is _ :: .is _ :: .is _ :: .is _ :: .is _ :: .is _ :: .is _ :: .is _ :: .is _ :: .is _ :: .is _ :: .is _ :: .is _ :: .is _ :: .is _ :: .is _ :: .is _ :: .is _ :: .is _ :: .is _ :: .is _ :: .is _ :: .is _ :: []) (by kernel_rfl) (by kernel_rfl) (by kernel_rfl) (by kernel_rfl) rfl ?main
     case main =>
     iterate 36
       apply obs_step
       · rfl
       · intro w4 hE4 hk4
         have hb4 := below2 HB7.out ((Below.refl w7.heap.size w7).drew.trans hE4)
         obtain ⟨d0, d1, d2, d3, d5, d6, dy⟩ := C1.out w4 hb4
         clear hk4 hE4
         go_wp2_with (go_at_call 97; refine (PKk.out _).mono ?_; rintro e w5 ⟨rfl, hb5⟩)
         first
         | (refine post_eq ?_ (Below.refl _ _)
            simp only [Act.put, sA, sB, sC]
            try rfl
            done)
         | (refine post_eq ?_ (drewN_below _ _)
            simp only [Act.put, sA, sB, sC]
            try rfl
            done)
         | (refine post_eq ?_ hb5
            simp only [Act.put, sA, sB, sC]
            try rfl
            done)
       · simp only [Act.put, sA, sB, sC]
         rfl
     refine obs_end fun w8 hE9 _ => ?_
     have hb9 : Below w7.heap.size w7 w8 := (Below.refl w7.heap.size w7).drew.trans hE9
     clear hE9
     have HB8 := Lib.hid (below2 HB7.out hb9)
     clear hb9 HB7 PKk C1
     change wpList _ _ _ _ _ _
     have W8 := Lib.hid (WRk.out _ HB8.out)
     have S8 := Lib.hid (SS.out.more HB8.out)
     have Q8 := Lib.hid (QQ.out.trans (Step.ofBelow HB8.out))
     clear WRk SS QQ HB8
     by_cases her : D1.writeE (l.place k) (l.sector k) = 0
     · have hnx : l.writes D f (x - f) = l.writes (D1.write (l.place k) (l.sector k)) (k + 1) (x - (k + 1)) := by
         rw [HWR.out, HXK.out, Wl.writes, if_pos her]
       have HNX := Lib.hid hnx
       rw [her] at W8
       clear hnx HWR her
       generalize D1.write (l.place k) (l.sector k) = D2 at *
       go_wp2_with fail
       refine W8.out.mono ?_
       rintro e w9 ⟨rfl, FD2, hd9, hst9⟩
       obtain ⟨hs9, hq9⟩ := S8.out.onDisk hd9 OKW.out hst9
       have S9 := Lib.hid hs9
       have Q9 := Lib.hid (Q8.out.trans hq9)
       clear hs9 hq9 hd9 hst9 W8 S8 Q8
       go_wp2
       go_roundw
       case rel => exact ⟨k + 1, D2, FD2, by go_num, by omega, by omega, S9.out, Q9.out, HNX.out, by have := HW1.out; omega⟩
       case measure => simp [intOf]; omega
     · have hnx : l.writes D f (x - f) = (D1.write (l.place k) (l.sector k), D1.writeE (l.place k) (l.sector k)) := by
         rw [HWR.out, HXK.out, Wl.writes, if_neg her]
       have hfin : l.flush D = (D1.write (l.place k) (l.sector k), l, D1.writeE (l.place k) (l.sector k)) := by
         rw [HFL.out, hnx, if_pos her]
       have HFIN := Lib.hid hfin
       have hne : (((D1.writeE (l.place k) (l.sector k) : Nat) : Int) != 0) = true := by simp; omega
       clear hnx hfin HWR her HFL
       generalize D1.write (l.place k) (l.sector k) = D2 at *
       generalize D1.writeE (l.place k) (l.sector k) = er at *
       go_wp2_with fail
       refine W8.out.mono ?_
       rintro e w9 ⟨rfl, FD2, hd9, hst9⟩
       obtain ⟨hs9, hq9⟩ := S8.out.onDisk hd9 OKW.out hst9
       have S9 := Lib.hid hs9
       have Q9 := Lib.hid (Q8.out.trans hq9)
       clear hs9 hq9 hd9 hst9 W8 S8 Q8
       go_wp2
       go_ret
       rw [HFIN.out]
       exact ⟨rfl, FD2, FL, S9.out, Q9.out⟩
   · obtain rfl : k = x := by omega
     have hdone : l.writes D f (k - f) = (D1, 0) := by rw [HWR.out, Nat.sub_self]; rfl
     have hfin : l.flush D = if D1.syncE ≠ 0 then (D1.sync, l, D1.syncE) else (D1.sync, { l with first := k }, 0) := by
       rw [HFL.out, hdone]; rw [if_neg (by simp)]
     have HFIN := Lib.hid hfin
     have hkx : ¬ (k : Int) ≤ (l.low : Int) + m := by omega
     clear hdone hfin HWR HFL PK BS
     go_wp2_with fail
     refine OPk.out.mono ?_
     rintro e w2 ⟨rfl, nd, rfl⟩
     have S2 := Lib.hid (SS.out.more (drewN_below wr nd))
     have Q2 := Lib.hid (QQ.out.trans (Step.ofBelow (drewN_below wr nd)))
     clear OPk SS QQ
     generalize wr.drewN nd = w3 at *
     have SY := Lib.hid (refSync_any S2.out.dok S2.out.disk)
     obtain ⟨g3, cap3, rr⟩ := LOG.out w3 FD1 D1 S2.out
     have c0 := rr.cells.1
     clear rr
     by_cases her : D1.syncE = 0
     · have hf2 : l.flush D = (D1.sync, { l with first := k }, 0) := by rw [HFIN.out, if_neg (by omega)]
       have HF2 := Lib.hid hf2
       rw [her] at SY
       clear hf2 HFIN her
       go_wp2_with fail
       refine SY.out.mono ?_
       rintro e w4 ⟨rfl, hd, hs⟩
       obtain ⟨hs2, hst⟩ := S2.out.onDisk hd S2.out.dok.sync hs
       have S4 := Lib.hid hs2
       have Q4 := Lib.hid (Q2.out.trans hst)
       clear hd hs hs2 hst S2 Q2 SY c0 hkx
       obtain ⟨g4, cap4, r4⟩ := LOG.out w4 FD1 _ S4.out
       have hbm : 0 < (bodyS (l.secs.getD m [])).size := (sec_pos OK.out (by have := HM.out.1; omega)).1
       have hb2 := toList_pos hbm
       have C4 : Hid (∀ W, Below w4.heap.size w4 W → W.cell? ⟨g, 6, none⟩ = some (.slice (some ⟨g4, 0, none⟩) (m + 1) cap4) ∧ W.cell? ⟨g4, m, none⟩ = some (.string (bodyS (l.secs.getD m [])))) := fun W hW =>
         have r := r4.below hW
         ⟨r.cells.2.2.2.2.2.2, sec_cell r HM.out.1 (by omega)⟩
       have R4 := Lib.hid r4
       have HB40 := Lib.hid (Below.refl w4.heap.size w4)
       have hlm : (m : Int) < (m : Int) + 1 := by omega
       have hmm : (m : Int) + 1 - 1 = (m : Int) := by omega
       have hkI : (k : Int) = (l.low : Int) + ((m : Int) + 1) := by omega
       clear r4 hbm
       generalize bodyS (l.secs.getD m []) = b at *
       go_upto_region 14 with fail
       refine' wp_region_conf 13 (.is _ :: .is _ :: .is _ :: .is _ :: .is _ :: .is _ :: .is _ :: .is _ :: .is _ :: .is _ :: .is _ :: .is _ :: .is _ :: []) (by kernel_rfl) (by kernel_rfl) (by kernel_rfl) (by kernel_rfl) rfl ?main
       case main =>
       iterate 13
         apply obs_step
         · rfl
         · intro w44 hE4 hk4
           have hb4 := below2 HB40.out ((Below.refl w4.heap.size w4).drew.trans hE4)
           obtain ⟨d6, dy⟩ := C4.out w44 hb4
           clear hk4 hE4
           go_wp2_with (fail)
           first
           | (refine post_eq ?_ (Below.refl _ _)
              simp only [Act.put, sA, sB, sC]
              try rfl
              done)
           | (refine post_eq ?_ (drewN_below _ _)
              simp only [Act.put, sA, sB, sC]
              try rfl
              done)
           | (refine post_eq ?_ hb5
              simp only [Act.put, sA, sB, sC]
              try rfl
              done)
         · simp only [Act.put, sA, sB, sC]
           rfl
       refine obs_end fun w5 hE9 _ => ?_
       have hb9 : Below w4.heap.size w4 w5 := (Below.refl w4.heap.size w4).drew.trans hE9
       clear hE9
       have HB5 := Lib.hid hb9
       clear hb9 HB40
       change wpList _ _ _ _ _ _
       obtain ⟨c6, cy⟩ := C4.out _ HB5.out
       go_upto_region 15 with fail
       clear C4 hb2 cy
       have r4 := R4.out.below HB5.out
       have B6 : Below w5.heap.size w5 (w5.alloc (.cells #[.string ⟨#[]⟩] 9)) := (Below.refl _ _).alloc (Nat.le_refl _) _
       have r5 := r4.below B6
       have Q5 := Lib.hid (Step.ofBelow (F := FL) (HB5.out.trans (B6.mono HB5.out.size)))
       have lg := r5.head.lt
       have nq6 := r5.vg
       have c65 : (w5.alloc (.cells #[.string ⟨#[]⟩] 9)).cell? ⟨g, 6, none⟩ = some (.slice (some ⟨g4, 0, none⟩) (m + 1) cap4) := r5.head.cell 6
       have z65 := r5.head.frozen 6
       obtain ⟨i0, hi0, hz0, hz1', hz2'⟩ := info_parts info_str
       have R5 := Lib.hid r5
       clear r4 r5 B6 HB5 R4
       go_wp2_with (at_builtin; refine wpList_append_lies _ rfl (.tmp 112) (.tmp 113) 66 rfl 0 9 i0 (.string ⟨#[]⟩) 1 16 Tryz.underlying66 hi0 hz0 hz1' hz2' rfl (by decide) _ _ _ rfl R5.out.rows ⟨w5.heap.size, 0, none⟩ 1 1 [.string ⟨#[]⟩] rfl rfl (World.news_of_block (heap_alloc_new w5 _)) (by simp [Value.oneCell']) (by omega) (by simp only [maxLen]; omega) (by omega) (Nat.zero_le _) _ rfl ?_)
       intro gg cap w6 hown hgrow hat hlt6
       have z66 := (hgrow.frozen_far ⟨g, 6, none⟩ lg (Ne.symm nq6)).trans z65
       have c66 := (hgrow.cell_far ⟨g, 6, none⟩ lg (Ne.symm nq6)).trans c65
       obtain ⟨r7, s7⟩ := R5.out.pushed hown hgrow (by rw [World.size_alloc]; exact hat) hlt6
       have S7 := Lib.hid (Q5.out.trans s7)
       have R7 := Lib.hid r7
       clear hown hgrow hat hlt6 R5 Q5 lg nq6 c65 z65 s7 r7 c6 hi0 hz0 hz1' hz2'
       go_upto_region 16 with (fail)
       clear z66 c66
       generalize w6.setCell ⟨g, 6, none⟩ (.slice (some ⟨gg, 0, none⟩) (m + 1 + 1) cap) = w7 at *
       have OP7 := Lib.hid (rlOpen_any R7.out OK.out.lm (by have := HM63.out; omega))
       have ek : ((l.low + (m + 1) : Nat) : Int) = (k : Int) := by omega
       rw [ek] at OP7
       go_wp2_with fail
       refine OP7.out.mono ?_
       rintro e w8 ⟨rfl, nd, rfl⟩
       have r8 := R7.out.below (drewN_below w7 nd)
       have S8 := Lib.hid (S7.out.trans (Step.ofBelow (drewN_below w7 nd)))
       generalize w7.drewN nd = w9 at *
       have c4 := r8.cells.2.2.2.2.1
       have z4 := r8.head.frozen 4
       obtain ⟨r9, s9⟩ := r8.setFirst k
       have hlog : IsRL (w9.setCell ⟨g, 4, none⟩ (.int .i64 k)) (fun b => FL b ∨ b = gg) g gd { l with first := k } := by
         have hok : ({ l with first := k } : Wl).Ok := by rw [← HX.out]; exact OK.out.flushed
         refine ⟨hok, .slice (some ⟨gg, 0, none⟩) (m + 1 + 1) cap, ?_⟩
         have hB : ({ l with first := k } : Wl).B = l.secs.map bodyS ++ [(⟨#[]⟩ : ByteArray)] := Wl.B_idle (l := { l with first := k }) HX.out.symm
         rw [hB, show (l.secs.map bodyS ++ [(⟨#[]⟩ : ByteArray)]).length = m + 1 + 1 by simp [HM.out.1]]
         exact r9
       obtain ⟨S9, Q9⟩ := S4.out.onLog hlog (S8.out.trans s9)
       have SS9 := Lib.hid S9
       have QQ9 := Lib.hid (Q4.out.trans Q9)
       clear S9 Q9 hlog r9 s9 r8 S8 S4 Q4 S7 R7 OP7 ek hkI hxm
       go_wp2
       go_ret
       rw [HF2.out]
       exact ⟨rfl, FD1, _, SS9.out, QQ9.out⟩
     · have hf2 : l.flush D = (D1.sync, l, D1.syncE) := by rw [HFIN.out, if_pos her]
       have HF2 := Lib.hid hf2
       have hne : (((D1.syncE : Nat) : Int) != 0) = true := by simp; omega
       clear hf2 HFIN her
       generalize D1.syncE = er at *
       go_wp2_with fail
       refine SY.out.mono ?_
       rintro e w4 ⟨rfl, hd, hs⟩
       obtain ⟨hs2, hst⟩ := S2.out.onDisk hd S2.out.dok.sync hs
       have SS3 := Lib.hid hs2
       have QQ3 := Lib.hid (Q2.out.trans hst)
       clear hs2 hst hd hs S2 Q2 c0
       go_wp2
       go_ret
       rw [HF2.out]
       exact ⟨rfl, FD1, FL, SS3.out, QQ3.out⟩
theorem rlFlush_any (h : SysR w FD FL g gd D l) (hep : l.epoch < 4294967296) (hw : D.waits.length ≤ 1000000) :
   Calls Tryz.prog 73 #[.pointer (some ⟨g, 0, none⟩)] w (FlushR w FD FL g gd (l.flush D)) := by
 by_cases he : l.first = l.end_
 · have e : l.flush D = (D, l, 0) := by unfold Wl.flush; rw [if_pos he.symm]
   rw [e]
   exact rlFlush_idle h he
 · exact rlFlush_go h he hep hw
end
end Go.Proofs.YtbplgbkbggmaeaaGreat
