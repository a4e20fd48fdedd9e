/- Texts that belong together, joined: SoF, SoG, SoP, SoJ, SoV. -/
import Derived.Test.YtbplgbkbggmaeaaGreatKso
import Derived.Test.YtbplgbkbggmaeaaGreatKpg
namespace Go.Proofs.YtbplgbkbggmaeaaGreat
open Go.RowKit
def copiesSA (t : Nat) (p : Pag) : List SA := [.w 0 (t, half p.bytes 0), .w 1 (t, half p.bytes 1), .sync]
theorem writeSA_parts (base i t : Nat) (p : Pag) : (writeSA i t p).map (SA.act base) = (copiesSA t p).map (SA.act base) ++ ([(SA.w 2 (t, oneB i)).act base] ++ ([.sync] ++ (homeSA i t (half p.bytes 0) (half p.bytes 1)).map (SA.act base))) := rfl
theorem acts_chain (l1 l2 l3 l4 : List Act7) (D : Dk) : acts (l1 ++ (l2 ++ (l3 ++ l4))) D = if (acts l1 D).2 = 0 then (if (acts l2 (acts l1 D).1).2 = 0 then (if (acts l3 (acts l2 (acts l1 D).1).1).2 = 0 then acts l4 (acts l3 (acts l2 (acts l1 D).1).1).1 else ((acts l3 (acts l2 (acts l1 D).1).1).1, (acts l3 (acts l2 (acts l1 D).1).1).2)) else ((acts l2 (acts l1 D).1).1, (acts l2 (acts l1 D).1).2)) else ((acts l1 D).1, (acts l1 D).2) := by
 rw [acts_app, acts_app, acts_app]
section
variable {w : World} {F : Foot} {s gd base n t : Nat} {D : Dk}
set_option maxRecDepth 100000 in
set_option maxHeartbeats 8000000 in
theorem soWrite1_any (h : IsSto w F s gd D base n t) {i T : Nat} {p : Pag} (hi : i < n) (hp : p.Right) (hT : T < 4294967296) (hr : base + (3 + 2 * n) ≤ D.safe.length) (hw : D.waits.length + 8 < 16777216)
   {ct cs ce ci : Nat} (k1 : Blk w ct 9 #[.string p.bytes]) (k2 : Blk w cs 26 #[.pointer (some ⟨s, 0, none⟩)]) (k3 : Blk w ce 130 #[.int .u32 T]) (k4 : Blk w ci 3 #[.int .i64 i])
   (n1 : ¬ F ct) (n2 : ¬ F cs) (n3 : ¬ F ce) (n4 : ¬ F ci) :
   Calls Tryz.prog 126 #[.pointer (some ⟨ct, 0, none⟩), .pointer (some ⟨cs, 0, none⟩), .pointer (some ⟨ce, 0, none⟩), .pointer (some ⟨ci, 0, none⟩)] w (RunA w F s gd base n t ((writeSA i T p).map (SA.act base)) D) := by
 have h8 := h.n8
 have hz := Pag.bytes_size hp
 have z0 := half_size hz (k := 0) (by omega)
 have z1 := half_size hz (k := 1) (by omega)
 have hfit := sa_fits (σ := fun _ => none) (s := D.safe) (base := base) (n := n)
 have keepC : Hid (∀ W F', Step F F' w W → W.cell? ⟨ct, 0, none⟩ = some (.string p.bytes) ∧ W.cell? ⟨cs, 0, none⟩ = some (.pointer (some ⟨s, 0, none⟩)) ∧ W.cell? ⟨ce, 0, none⟩ = some (.int .u32 T) ∧ W.cell? ⟨ci, 0, none⟩ = some (.int .i64 i)) := fun W F' hs =>
   ⟨Blk.cell (show Blk W ct 9 #[.string p.bytes] from (hs.block ct k1.lt n1).trans k1) 0, Blk.cell (show Blk W cs 26 _ from (hs.block cs k2.lt n2).trans k2) 0,
    Blk.cell (show Blk W ce 130 _ from (hs.block ce k3.lt n3).trans k3) 0, Blk.cell (show Blk W ci 3 _ from (hs.block ci k4.lt n4).trans k4) 0⟩
 have f1 : ∀ a ∈ (copiesSA T p).map (SA.act base), a.fits D.safe.length := fun a ha => by
   simp only [copiesSA, List.map_cons, List.map_nil, List.mem_cons, List.not_mem_nil, or_false] at ha
   rcases ha with rfl | rfl | rfl
   · exact ⟨by omega, secOf_size (n := n) (k := 0) (by unfold Body; rw [if_neg (by omega)]; exact z0)⟩
   · exact ⟨by omega, secOf_size (n := n) (k := 1) (by unfold Body; rw [if_neg (by omega)]; exact z1)⟩
   · trivial
 have b2 : Body n 2 (oneB i) := by unfold Body; rw [if_pos rfl]; exact ⟨i, hi, rfl⟩
 have f2 : ((SA.w 2 (T, oneB i)).act base).fits D.safe.length := ⟨by omega, secOf_size b2⟩
 have b3 : Body n (3 + 2 * i) (half p.bytes 0) := by unfold Body; rw [if_neg (by omega)]; exact z0
 have b4 : Body n (3 + 2 * i + 1) (half p.bytes 1) := by unfold Body; rw [if_neg (by omega)]; exact z1
 have c0 : Body n 0 (half p.bytes 0) := by unfold Body; rw [if_neg (by omega)]; exact z0
 have c1 : Body n 1 (half p.bytes 1) := by unfold Body; rw [if_neg (by omega)]; exact z1
 obtain ⟨l1, m1⟩ := acts_len _ D f1
 have e1 := acts_err _ D f1
 have P1 : Hid (∀ W, Below w.heap.size w W → _) := fun W hW => soPair_put (h.below hW) (k := 0) (E := T) (by omega) c0 c1 hT hr (by omega)
 generalize hD1 : (acts ((copiesSA T p).map (SA.act base)) D).1 = D1 at *
 have f2' : ∀ a ∈ [(SA.w 2 (T, oneB i)).act base], a.fits D1.safe.length := fun a ha => by rw [l1]; simp at ha; subst ha; exact f2
 obtain ⟨l2, m2⟩ := acts_len _ D1 f2'
 have e2 := acts_err _ D1 f2'
 have P2 : Hid (∀ W F', IsSto W F' s gd D1 base n t → _) := fun W F' hI => soPut_any hI (k := 2) (E := T) (b := oneB i) (by omega) b2 hT (by rw [l1]; exact hr) (by simp [copiesSA] at m1; omega)
 generalize hD2 : (acts [(SA.w 2 (T, oneB i)).act base] D1).1 = D2 at *
 have f3 : ∀ a ∈ [Act7.sync], a.fits D2.safe.length := fun a ha => by simp at ha; subst ha; trivial
 obtain ⟨l3, m3⟩ := acts_len _ D2 f3
 have e3 := acts_err _ D2 f3
 have P3 : Hid (∀ W F', IsSto W F' s gd D2 base n t → _) := fun W F' hI => soSync_any hI
 generalize hD3 : (acts [Act7.sync] D2).1 = D3 at *
 have f4 : ∀ a ∈ (homeSA i T (half p.bytes 0) (half p.bytes 1)).map (SA.act base), a.fits D3.safe.length := fun a ha => by
   rw [l3, l2, l1]
   simp only [homeSA, List.map_cons, List.map_nil, List.mem_cons, List.not_mem_nil, or_false] at ha
   rcases ha with rfl | rfl | rfl
   · exact ⟨by omega, secOf_size b3⟩
   · exact ⟨by omega, secOf_size (k := 4 + 2 * i) (by rw [show 4 + 2 * i = 3 + 2 * i + 1 by omega]; exact b4)⟩
   · trivial
 have e4 := acts_err _ D3 f4
 have P4 : Hid (∀ W F', IsSto W F' s gd D3 base n t → _) := fun W F' hI => soPair_put hI (k := 3 + 2 * i) (E := T) (by omega) b3 b4 hT (by rw [l3, l2, l1]; exact hr) (by simp [copiesSA] at m1; simp at m2 m3; omega)
 have hk1 : 3 + 2 * i + 1 = 4 + 2 * i := by omega
 rw [hk1] at P4
 unfold RunA at P1 P2 P3 P4 ⊢
 change Hid (∀ W, Below w.heap.size w W → Calls _ _ _ _ fun e w' => ∃ F', e = endOf (acts ((copiesSA T p).map (SA.act base)) D).2 ∧ IsSto w' F' s gd (acts ((copiesSA T p).map (SA.act base)) D).1 base n t ∧ Step F F' W w') at P1
 change Hid (∀ W F', IsSto W F' s gd D3 base n t → Calls _ _ _ _ fun e w' => ∃ F'', e = endOf (acts ((homeSA i T (half p.bytes 0) (half p.bytes 1)).map (SA.act base)) D3).2 ∧ IsSto w' F'' s gd (acts ((homeSA i T (half p.bytes 0) (half p.bytes 1)).map (SA.act base)) D3).1 base n t ∧ Step F' F'' W w') at P4
 have HA : acts ((writeSA i T p).map (SA.act base)) D = if (acts ((copiesSA T p).map (SA.act base)) D).2 = 0 then (if (acts [(SA.w 2 (T, oneB i)).act base] D1).2 = 0 then (if (acts [Act7.sync] D2).2 = 0 then acts ((homeSA i T (half p.bytes 0) (half p.bytes 1)).map (SA.act base)) D3 else (D3, (acts [Act7.sync] D2).2)) else (D2, (acts [(SA.w 2 (T, oneB i)).act base] D1).2)) else (D1, (acts ((copiesSA T p).map (SA.act base)) D).2) := by
   rw [writeSA_parts]
   subst hD3 hD2 hD1
   exact acts_chain _ _ _ _ D
 rw [hD1] at P1
 rw [hD2] at P2
 rw [hD3] at P3
 generalize acts ((writeSA i T p).map (SA.act base)) D = X at *
 clear f1 f2 f2' f3 f4 l1 l2 l3 m1 m2 m3 b2 b3 b4 c0 c1 hr hw hT hp hfit hD1 hD2 hD3 k1 k2 k3 k4 n1 n2 n3 n4 z0 z1
 generalize (acts ((copiesSA T p).map (SA.act base)) D).2 = r1 at *
 generalize (acts [(SA.w 2 (T, oneB i)).act base] D1).2 = r2 at *
 generalize (acts [Act7.sync] D2).2 = r3 at *
 generalize (acts ((homeSA i T (half p.bytes 0) (half p.bytes 1)).map (SA.act base)) D3) = X4 at *
 have HX := Lib.hid HA
 clear HA
 have hsl0 : ∀ W, (Instr.slice 9 (.string p.bytes) none (some (.int .i64 112)) none).run Tryz.prog W = .ok (.string (half p.bytes 0)) W := fun W => by
   have := run_slice_string_h (P := Tryz.prog) (w := W) (t := 9) p.bytes Tryz.underlying9 .i64 112 (by omega) (by omega)
   simpa [half] using this
 have hsl1 : ∀ W, (Instr.slice 9 (.string p.bytes) (some (.int .i64 112)) none none).run Tryz.prog W = .ok (.string (half p.bytes 1)) W := fun W => by
   have := slice_from (P := Tryz.prog) 9 Tryz.underlying9 p.bytes 112 .i64 112 rfl (by omega) W
   rw [hz] at this
   exact this
 clear hz
 generalize half p.bytes 0 = ha at *
 generalize half p.bytes 1 = hb at *
 generalize p.bytes = pb at *
 go_enter Tryz.func126, Tryz.ntmps126
 go_upto_region 0 with fail
 have H := Lib.hid h
 clear h
 refine' wp_region_conf 6 (.is _ :: .is _ :: .is _ :: .is _ :: .is _ :: .ptr w.heap.size 129 #[.string ⟨#[]⟩, .string ⟨#[]⟩] :: []) (by kernel_rfl) (by kernel_rfl) (by kernel_rfl) (by kernel_rfl) rfl ?main
 case main =>
   iterate 5
     refine obs_is (fun w4 hE4 _ => ?_) ?_
     · obtain ⟨d0, d1, d2, d3⟩ := keepC.out w4 F (Step.ofBelow ((Below.refl _ _).drew.trans hE4))
       go_wp2
       exact post_is (Below.refl _ _)
     simp only [Act.put, sA, sB, sC]
   refine obs_ptr (fun w4 hE4 _ => ?_) (fun x => ?_)
   · go_wp2
     exact ⟨_, rfl, ⟨w4.heap.size, hE4.size, rfl, Blk.new _ _ _⟩, (Below.refl _ _).alloc (Nat.le_refl _) _⟩
   simp only [Act.put, sA, sB, sC]
   refine obs_end fun w1 hE1 hk => ?_
   obtain ⟨x, hx, rfl, hx1⟩ := hk _ (List.mem_cons_self)
   clear hk
   have B1 : Below w.heap.size w w1 := (Below.refl _ _).drew.trans hE1
   clear hE1
   refine wpList_store_row rfl 129 _ _ rfl x (#[.string ha, .string hb]) rfl rfl 129 _ hx1 (by kernel_rfl) (by simp) (by simp [Value.oneCell']) ?_
   replace hx1 := hx1.setRow #[.string ha, .string hb]
   replace B1 := below_setRow B1 (g := x) hx #[.string ha, .string hb]
   simp only [Act.put]
   generalize w1.setRow x _ = w2 at *
   have hxF : ¬ F x := fun hF => by have := H.out.disk.lt _ hF; omega
   have KC : Hid (∀ W F', Step F F' w2 W → Blk W x 129 #[.string ha, .string hb] ∧ W.cell? ⟨cs, 0, none⟩ = some (.pointer (some ⟨s, 0, none⟩)) ∧ W.cell? ⟨ce, 0, none⟩ = some (.int .u32 T) ∧ W.cell? ⟨ci, 0, none⟩ = some (.int .i64 i)) := fun W F' hs =>
     ⟨(hs.block x hx1.lt hxF).trans hx1, (keepC.out W F' ((Step.ofBelow B1).trans hs)).2⟩
   have HB1 := Lib.hid B1
   clear keepC hx1 B1 hxF hsl0 hsl1 hx
   obtain ⟨q1, d1, d2, d3⟩ := KC.out w2 F (Step.refl _ _)
   go_wp2_with (refine wpList_load_row rfl 129 _ rfl x rfl 129 _ (0, 0) _ q1 Tryz.underlying129 rfl (by kernel_rfl) ?_)
   refine (P1.out w2 HB1.out).mono ?_
   rintro e w3 ⟨F1, rfl, hi1, hs1⟩
   have I1 := Lib.hid hi1
   have S1 := Lib.hid hs1
   have FS : Hid (∀ W F', Step F F' w2 W → Step F F' w W) := fun W F' hs => (Step.ofBelow HB1.out).trans hs
   obtain ⟨-, d1, d2, d3⟩ := KC.out w3 F1 hs1
   clear q1 hi1 hs1 P1 HB1 H
   rcases e1.symm with rfl | rfl
   · obtain rfl : X = (D1, 4) := by rw [HX.out]; rfl
     rw [endOf_four]
     go_wp2
     exact ⟨rfl, rfl, F1, I1.out, FS.out _ _ S1.out⟩
   rw [endOf_zero]
   have hi8 : (i : Int) < 8 := by omega
   have bl := (Blk.new w3 5 (bytesV [UInt8.ofNat i]))
   have hbv : bytesV [UInt8.ofNat i] = #[.int .u8 (i : Int)] := by
     have : (UInt8.ofNat i).toNat = i := by simp; omega
     simp [bytesV, this]
   have hcv := conv_blk bl 0 1 1 (by simp) 136 5 9 Tryz.underlying136 Tryz.underlying5 Tryz.underlying9
   have hone : (⟨((([UInt8.ofNat i] : List UInt8).drop 0).take 1).toArray⟩ : ByteArray) = oneB i := rfl
   rw [hone] at hcv
   rw [hbv] at hcv
   clear bl hbv hone
   go_wp2_with fail
   have ba : Below w3.heap.size w3 (w3.alloc (.cells #[.int .u8 (i : Int)] 5)) := (Below.refl _ _).alloc (Nat.le_refl _) _
   refine (P2.out _ F1 (I1.out.below ba)).mono ?_
   rintro e w4 ⟨F2, rfl, hi2, hs2⟩
   have I2 := Lib.hid hi2
   have S2 := Lib.hid ((S1.out.more ba).trans hs2)
   obtain ⟨-, c1, c2, c3⟩ := KC.out w4 F2 S2.out
   clear hi2 hs2 ba hcv d1 d2 d3 P2 I1 S1
   rcases e2.symm with rfl | rfl
   · obtain rfl : X = (D2, 4) := by rw [HX.out]; rfl
     rw [endOf_four]
     go_wp2
     exact ⟨rfl, rfl, F2, I2.out, FS.out _ _ S2.out⟩
   rw [endOf_zero]
   go_wp2_with fail
   refine (P3.out _ F2 I2.out).mono ?_
   rintro e w5 ⟨F3, rfl, hi3, hs3⟩
   have I3 := Lib.hid hi3
   have S3 := Lib.hid (S2.out.trans hs3)
   clear hi3 hs3 c1 c2 c3 P3 I2 S2
   rcases e3.symm with rfl | rfl
   · obtain rfl : X = (D3, 4) := by rw [HX.out]; rfl
     rw [endOf_four]
     go_wp2
     exact ⟨rfl, rfl, F3, I3.out, FS.out _ _ S3.out⟩
   rw [endOf_zero]
   go_upto_region 4 with fail
   have HM := Lib.hid (fun W => soHomes_any i (by omega) W)
   refine' wp_region_conf 5 (.is _ :: .is _ :: .is _ :: .is _ :: .is _ :: []) (by kernel_rfl) (by kernel_rfl) (by kernel_rfl) (by kernel_rfl) rfl ?main
   case main =>
     iterate 5
       refine obs_is (fun w6 hE6 _ => ?_) ?_
       · obtain ⟨q1, c1, c2, c3⟩ := KC.out w6 F3 (S3.out.more ((Below.refl _ _).drew.trans hE6))
         go_wp2_with (first
           | (go_at_call 59; refine (HM.out _).mono ?_; rintro e w7 ⟨rfl, rfl⟩)
           | (refine wpList_load_row rfl 129 _ rfl x rfl 129 _ (0, 0) _ q1 Tryz.underlying129 rfl (by kernel_rfl) ?_))
         exact post_is (Below.refl _ _)
       simp only [Act.put, sA, sB, sC]
     refine obs_end fun w6 hE6 _ => ?_
     have b6 : Below w5.heap.size w5 w6 := (Below.refl _ _).drew.trans hE6
     have I6 := Lib.hid (I3.out.below b6)
     have S6 := Lib.hid (S3.out.more b6)
     clear hE6 b6 I3 S3 KC
     change wpList _ _ _ _ _ _
     go_wp2_with fail
     refine (P4.out _ F3 I6.out).mono ?_
     rintro e w7 ⟨F4, rfl, hi4, hs4⟩
     have I7 := Lib.hid hi4
     have S7 := Lib.hid (S6.out.trans hs4)
     clear hi4 hs4 I6 S6 P4
     obtain rfl : X = X4 := by rw [HX.out]; rfl
     obtain ⟨D4, r4⟩ := X
     rcases e4 with e4 | e4
     · obtain rfl : r4 = 0 := e4
       rw [endOf_zero]
       go_wp2
       go_end0
       exact ⟨rfl, F4, I7.out, FS.out _ _ S7.out⟩
     · obtain rfl : r4 = 4 := e4
       rw [endOf_four]
       go_wp2
       exact ⟨rfl, rfl, F4, I7.out, FS.out _ _ S7.out⟩
end
end Go.Proofs.YtbplgbkbggmaeaaGreat

namespace Go.Proofs.YtbplgbkbggmaeaaGreat
open Go.RowKit
abbrev OfS (F : Foot) (s : Nat) : Foot := fun b => F b ∨ b = s
theorem IsSto.tick {w : World} {F : Foot} {s gd base n t : Nat} {D : Dk} (h : IsSto w F s gd D base n t) (t' : Nat) : IsSto (w.setCell ⟨s, 3, none⟩ (.int .i64 t')) F s gd D base n t' ∧ Step (OfS F s) (OfS F s) w (w.setCell ⟨s, 3, none⟩ (.int .i64 t')) :=
 ⟨⟨h.disk.keep (fun b hb => heap_setCell_other w _ b _ (fun e : b = s => h.apart (e ▸ hb))) (by simp [World.setCell]), h.head.set 3 _, h.apart, h.b5, h.n8⟩, (Step.refl _ _).set (p := ⟨s, 3, none⟩) (.inr rfl) _⟩
theorem Step.ofS {F F' : Foot} {s : Nat} {w w' : World} (h : Step F F' w w') : Step (OfS F s) (OfS F' s) w w' :=
 ⟨h.os, h.tape, h.output, h.size, fun b hb hf => h.block b hb fun e => hf (.inl e), fun b hb => hb.elim (fun e => (h.foot b e).imp .inl id) fun e => .inl (.inr e)⟩
def WroteS (w : World) (F : Foot) (s gd base n t : Nat) (X : Dk × Nat) (e : Ending) (w' : World) : Prop :=
 ∃ F', e = .returned (.int .i64 X.2) ∧ IsSto w' F' s gd X.1 base n t ∧ Step (OfS F s) (OfS F' s) w w'
section
variable {w : World} {F : Foot} {s gd base n t : Nat} {D : Dk}
set_option maxRecDepth 100000 in
set_option maxHeartbeats 8000000 in
theorem soWrite_ok (h : IsSto w F s gd D base n t) {i : Nat} {p : Pag} (hi : i < n) (hp : p.Right) (ht : t < 4294967296) (hr : base + (3 + 2 * n) ≤ D.safe.length) (hw : D.waits.length + 8 < 16777216) :
   Calls Tryz.prog 104 #[.pointer (some ⟨s, 0, none⟩), .int .i64 i, .agg #[.int .i64 p.1, .string p.2]] w (WroteS w F s gd base n (t + 1) (acts ((writeSA i t p).map (SA.act base)) D)) := by
 have HH : Hid (∀ W, Below w.heap.size w W → _) := fun W hW => soHas_any (h.below hW) i true (by rw [decide_eq_true]; exact ⟨by omega, by omega⟩)
 have HP := Lib.hid (fun W => pgPack_right hp W)
 have h8 := h.n8
 have hlt : ∀ b, b ≥ w.heap.size → ¬ F b := fun b hb hF => by have := h.disk.lt b hF; omega
 have hsl := h.head.lt
 have hfit : ∀ a ∈ (writeSA i t p).map (SA.act base), a.fits D.safe.length := fun a ha => by
   obtain ⟨q, hq, rfl⟩ := List.mem_map.1 ha
   have := writeSA_fits (t := t) hi hp q hq
   cases q with
   | w k x => exact ⟨by have := this.1; omega, secOf_size this.2⟩
   | sync => trivial
 have HA : Hid (∀ W, IsSto W F s gd D base n (t + 1) → ∀ ct cs ce ci : Nat, Blk W ct 9 #[.string p.bytes] → Blk W cs 26 #[.pointer (some ⟨s, 0, none⟩)] → Blk W ce 130 #[.int .u32 t] → Blk W ci 3 #[.int .i64 i] → ¬ F ct → ¬ F cs → ¬ F ce → ¬ F ci →
     Calls Tryz.prog 125 #[.func (.func 126) #[] #[.pointer (some ⟨ct, 0, none⟩), .pointer (some ⟨cs, 0, none⟩), .pointer (some ⟨ce, 0, none⟩), .pointer (some ⟨ci, 0, none⟩)]] W (TryA W F s gd base n (t + 1) ((writeSA i t p).map (SA.act base)) D)) :=
   fun W hW ct cs ce ci k1 k2 k3 k4 n1 n2 n3 n4 => soAttempt_any hW hfit _ #[] _ (fun _ => by kernel_rfl) fun W' hb =>
     soWrite1_any (hW.below hb) hi hp ht hr hw (k1.keep hb k1.lt) (k2.keep hb k2.lt) (k3.keep hb k3.lt) (k4.keep hb k4.lt) n1 n2 n3 n4
 have H := Lib.hid h
 have HLT := Lib.hid hlt
 have ht1 : IntKind.wrap .u32 (t : Int) = t := by rw [IntKind.wrap_u32]; omega
 have ht2 : IntKind.wrap .i64 ((t : Int) + 1) = (t : Int) + 1 := by rw [IntKind.wrap_i64]; omega
 obtain ⟨a, d⟩ := p
 simp only at HP HA ⊢
 generalize Pag.bytes (a, d) = pb at *
 unfold WroteS
 unfold TryA at HA
 generalize acts ((writeSA i t (a, d)).map (SA.act base)) D = X at *
 clear h hp hfit hlt hr hw ht h8
 have X0 := ((Blk.new w 26 #[.pointer (some ⟨s, 0, none⟩)]).alloc (.cells #[.int .i64 i] 3)).alloc (.cells #[.int .i64 a, .string d] 45)
 have X1 := (Blk.new (w.alloc (.cells #[.pointer (some ⟨s, 0, none⟩)] 26)) 3 #[.int .i64 i]).alloc (.cells #[.int .i64 a, .string d] 45)
 have X2 := Blk.new ((w.alloc (.cells #[.pointer (some ⟨s, 0, none⟩)] 26)).alloc (.cells #[.int .i64 i] 3)) 45 #[.int .i64 a, .string d]
 have B := (((Below.refl w.heap.size w).alloc (Nat.le_refl _) (.cells #[.pointer (some ⟨s, 0, none⟩)] 26)).alloc (by simp) (.cells #[.int .i64 i] 3)).alloc (by simp; omega) (.cells #[.int .i64 a, .string d] 45)
 simp only [World.size_alloc] at X1 X2
 go_enter Tryz.func104, Tryz.ntmps104
 go_upto_region 1 with fail
 change Code.wp _ _ _ _ (((w.alloc (.cells #[.pointer (some ⟨s, 0, none⟩)] 26)).alloc (.cells #[.int .i64 i] 3)).alloc (.cells #[.int .i64 a, .string d] 45))
 generalize ((w.alloc (.cells #[.pointer (some ⟨s, 0, none⟩)] 26)).alloc (.cells #[.int .i64 i] 3)).alloc (.cells #[.int .i64 a, .string d] 45) = w0 at *
 have c0 := X0.cell 0
 have c1 := X1.cell 0
 simp at c0 c1
 go_wp2_with fail
 refine (HH.out _ B).mono ?_
 rintro e w1 ⟨rfl, rfl⟩
 go_wp2_with (refine wpList_load_row rfl 45 _ rfl (w.heap.size + 1 + 1) rfl 45 _ (0, 0) _ X2 Tryz.underlying45 rfl (by kernel_rfl) ?_)
 refine (HP.out _).mono ?_
 rintro e w1 ⟨rfl, hb1⟩
 have B1 := below2 B hb1
 have Y0 := X0.keep hb1 X0.lt
 have Y1 := X1.keep hb1 X1.lt
 have B2 := B1.alloc B1.size (.cells #[.string pb] 9)
 have Z0 := Y0.alloc (.cells #[.string pb] 9)
 have Z1 := Y1.alloc (.cells #[.string pb] 9)
 have Z2 := Blk.new w1 9 #[.string pb]
 clear X0 X1 X2 c0 c1 HH HP
 go_upto_region 8 with fail
 change Code.wp _ _ _ _ (w1.alloc (.cells #[.string pb] 9))
 have hct : w.heap.size ≤ w1.heap.size := B1.size
 have hz1 : w1.heap.size < (w1.alloc (.cells #[.string pb] 9)).heap.size := Z2.lt
 clear B B1 Y0 Y1 hb1
 generalize w1.alloc (.cells #[.string pb] 9) = w2 at *
 generalize w1.heap.size = ct at *
 have I2 := H.out.below B2
 have c0 := Z0.cell 0
 have c1 := Z1.cell 0
 simp at c0 c1
 obtain ⟨-, -, -, c3⟩ := I2.cells
 have f3 := I2.head.frozen 3
 have hsx : s < w2.heap.size := Nat.lt_of_lt_of_le hsl B2.size
 have D0 := Lib.hid ((Z0.alloc (.cells #[.int .u32 t] 130)).cell 0)
 have D3 := Lib.hid (I2.below ((Below.refl _ _).alloc (Nat.le_refl _) (.cells #[.int .u32 t] 130))).cells.2.2.2
 have hsz : w.heap.size ≤ w2.heap.size := B2.size
 obtain ⟨I3, S3⟩ := I2.tick (t + 1)
 have SS0 := (Step.ofBelow (F := OfS F s) B2).trans S3
 have Z0' := Z0.far (p := ⟨s, 3, none⟩) (by show ¬ w.heap.size = s; omega) (.int .i64 (t + 1 : Nat))
 have Z1' := Z1.far (p := ⟨s, 3, none⟩) (by show ¬ w.heap.size + 1 = s; omega) (.int .i64 (t + 1 : Nat))
 have Z2' := Z2.far (p := ⟨s, 3, none⟩) (by show ¬ ct = s; omega) (.int .i64 (t + 1 : Nat))
 have K0 := Z0'.alloc (.cells #[.int .u32 t] 130)
 have K1 := Z1'.alloc (.cells #[.int .u32 t] 130)
 have K2 := Z2'.alloc (.cells #[.int .u32 t] 130)
 have K3 := Blk.new (w2.setCell ⟨s, 3, none⟩ (.int .i64 (t + 1 : Nat))) 130 #[.int .u32 t]
 rw [show (w2.setCell ⟨s, 3, none⟩ (.int .i64 (t + 1 : Nat))).heap.size = w2.heap.size by simp [World.setCell]] at K3
 have I4 := I3.below ((Below.refl _ _).alloc (Nat.le_refl _) (.cells #[.int .u32 t] 130))
 have FIN := Lib.hid (HA.out _ I4 _ _ _ _ K2 K0 K3 K1 (HLT.out _ hct) (HLT.out _ (Nat.le_refl _)) (HLT.out _ hsz) (HLT.out _ (Nat.le_succ _)))
 have SS := Lib.hid (SS0.alloc (.cells #[.int .u32 t] 130))
 clear Z0 Z1 Z2 Z0' Z1' Z2' K0 K1 K2 K3 I3 S3 SS0 I4 I2 B2 HA H HLT
 have d0 := D0.out
 have d3 := D3.out
 simp at d0
 go_wp2_with fail
 refine FIN.out.mono ?_
 rintro e w5 ⟨F', rfl, hi5, hs5⟩
 have I5 := Lib.hid hi5
 have S5 := Lib.hid (SS.out.trans hs5.ofS)
 clear hi5 hs5 FIN SS D0 D3 d0 d3 c0 c1 c3 f3
 go_wp2
 go_ret
 exact ⟨F', rfl, I5.out, S5.out⟩
end
end Go.Proofs.YtbplgbkbggmaeaaGreat

namespace Go.Proofs.YtbplgbkbggmaeaaGreat
open Go.RowKit
theorem results_row_tmp2 {P : Program} {fn : Func} {p u v : Tmp} {ty : TypeId} (h : fn.results = #[.cell p ty, .tmp u, .tmp v]) (tmps : Array Value) (w : World) (g : Nat) (t : TypeId) (cs : Array Value) (d : TypeDesc)
   (hp : tmps.getD p undef = .pointer (some ⟨g, 0, none⟩)) (hg : Blk w g t cs)
   (hu : P.underlying ty = some d) (hd : (match d with | .struct _ | .array _ _ => true | _ => false) = true) (hi : (P.info? ty).map (·.size) = some cs.size) :
   (results fn tmps).run P w = .ok (.tuple #[.agg cs, tmps.getD u undef, tmps.getD v undef]) w := by
 have hp' : tmps[p]?.getD undef = .pointer (some ⟨g, 0, none⟩) := by simpa using hp
 simp [results, h, hp', asAddr, run_loadVar_row w g t ty cs (0, 0) d hg hu hd hi]
def pairOk (σ : Sg) (k : Nat) : Bool := (σ k).isSome && (σ (k + 1)).isSome && (sgE σ k == sgE σ (k + 1))
section
variable {w : World} {F : Foot} {s gd base n t T : Nat} {D : Dk} {σ : Sg}
set_option maxRecDepth 100000 in
set_option maxHeartbeats 4000000 in
theorem soPair_any (h : Stands7 w F s gd D base n t T σ) (k : Nat) (hk : k + 1 < 3 + 2 * n) :
   Calls Tryz.prog 63 #[.pointer (some ⟨s, 0, none⟩), .int .i64 k] w fun e w' => e = .returned (.tuple #[.agg #[.string (sgB σ k), .string (sgB σ (k + 1))], .int .u32 (sgE σ k : Nat), .bool (pairOk σ k)]) ∧ Below w.heap.size w w' := by
 have H1 : Hid (∀ W, Below w.heap.size w W → _) := fun W hW => soSlab_any (h.below hW) k (by omega)
 have H2 : Hid (∀ W, Below w.heap.size w W → _) := fun W hW => soSlab_any (h.below hW) (k + 1) hk
 have hk19 : (k : Int) ≤ 19 := by have := h.sto.n8; omega
 have HE : Hid (∀ x, x = (decide ((sgE σ k : Int) = (sgE σ (k + 1) : Int))) → (sgE σ k == sgE σ (k + 1)) = x) := fun x hx => by
   subst hx
   rw [Bool.eq_iff_iff]
   simp
   omega
 unfold pairOk
 clear h hk
 have hk1 : ((k + 1 : Nat) : Int) = (k : Int) + 1 := by omega
 generalize k + 1 = k2 at *
 generalize sgE σ k = E at *
 generalize sgB σ k = b at *
 generalize sgI σ k = I at *
 generalize sgE σ k2 = E2 at *
 generalize sgB σ k2 = b2 at *
 generalize sgI σ k2 = I2 at *
 generalize (σ k).isSome = a1 at *
 generalize (σ k2).isSome = a2 at *
 rw [hk1] at H2
 clear hk1
 obtain ⟨yes, hyes⟩ : ∃ yes, yes = (a1 && a2 && (E == E2)) := ⟨_, rfl⟩
 rw [← hyes]
 have HY := Lib.hid hyes
 clear hyes
 have R0 := (Blk.new w 129 #[.string ⟨#[]⟩, .string ⟨#[]⟩])
 have B0 := (Below.refl w.heap.size w).alloc (Nat.le_refl _) (.cells #[.string ⟨#[]⟩, .string ⟨#[]⟩] 129)
 have FIN : Hid (∀ w3 x y : _, Blk w3 w.heap.size 129 #[.string ⟨#[]⟩, .string ⟨#[]⟩] → Blk w3 x 138 #[.int .u32 E, .int .u32 I, .string b] → Blk w3 y 138 #[.int .u32 E2, .int .u32 I2, .string b2] → w.heap.size ≠ x → w.heap.size ≠ y →
     ∀ W, Spare (· = w.heap.size) w3.drew W → W.cell? ⟨x, 2, none⟩ = some (.string b) ∧ W.cell? ⟨y, 2, none⟩ = some (.string b2) ∧ W.cell? ⟨x, 0, none⟩ = some (.int .u32 E) ∧ W.cell? ⟨y, 0, none⟩ = some (.int .u32 E2)) := fun w3 x y _ hx hy h1 h2 W hW =>
   ⟨(hW.keep hx.drew (fun e => h1 e.symm)).cell 2, (hW.keep hy.drew (fun e => h2 e.symm)).cell 2, (hW.keep hx.drew (fun e => h1 e.symm)).cell 0, (hW.keep hy.drew (fun e => h2 e.symm)).cell 0⟩
 go_enter Tryz.func63, Tryz.ntmps63
 go_wp2_with fail
 refine (H1.out _ B0).mono ?_
 rintro e w1 ⟨rfl, hb1⟩
 have B1 := below2 B0 hb1
 have B2 := B1.alloc B1.size (.cells #[.int .u32 E, .int .u32 I, .string b] 138)
 go_wp2_with fail
 refine (H2.out _ B2).mono ?_
 rintro e w2 ⟨rfl, hb2⟩
 go_upto_region 3 with fail
 have X1 := ((Blk.new w1 138 #[.int .u32 E, .int .u32 I, .string b]).keep hb2 (Blk.lt (Blk.new _ _ _))).alloc (.cells #[.int .u32 E2, .int .u32 I2, .string b2] 138)
 have X2 := Blk.new w2 138 #[.int .u32 E2, .int .u32 I2, .string b2]
 have R1 := R0.keep hb1 R0.lt
 have R2 := ((R1.alloc (.cells #[.int .u32 E, .int .u32 I, .string b] 138)).keep hb2 (Blk.lt (Blk.alloc R1 _))).alloc (.cells #[.int .u32 E2, .int .u32 I2, .string b2] 138)
 have B4 := below2 B2 hb2
 have B3 := B4.alloc B4.size (.cells #[.int .u32 E2, .int .u32 I2, .string b2] 138)
 change Code.wp _ _ _ _ (w2.alloc (.cells #[.int .u32 E2, .int .u32 I2, .string b2] 138))
 have hx : w.heap.size ≠ w1.heap.size := by have := R1.lt; omega
 have hy : w.heap.size ≠ w2.heap.size := by have := hb2.size; simp at this; have := R1.lt; omega
 have HROW := Lib.hid (FIN.out _ _ _ R2 X1 X2 hx hy)
 have HR2 := Lib.hid R2
 have HB3 := Lib.hid B3
 clear R0 R1 R2 B0 B1 B2 B3 B4 hb1 hb2 X1 X2 FIN H1 H2 hx hy
 generalize w2.alloc (.cells #[.int .u32 E2, .int .u32 I2, .string b2] 138) = w3 at *
 generalize w2.heap.size = y at *
 generalize w1.heap.size = x at *
 match a1, a2 with
 | false, _ =>
   obtain rfl : yes = false := by rw [HY.out]; rfl
   clear HE HY
   refine' wp_region_late 21 18 (· = w.heap.size) (fun W => Blk W w.heap.size 129 #[.string ⟨#[]⟩, .string ⟨#[]⟩]) (fun W => Blk W w.heap.size 129 #[.string b, .string b2]) (_ :: _ :: _ :: _ :: _ :: _ :: _ :: _ :: _ :: undef :: _ :: _ :: undef :: undef :: undef :: undef :: undef :: _ :: undef :: _ :: _ :: []) (by kernel_rfl) (by kernel_rfl) (by kernel_rfl) (by kernel_rfl) (by kernel_rfl) rfl HR2.out (fun W W' hb h => h.keep hb h.lt) (fun W W' hb h => h.keep hb h.lt) ?main
   case main =>
     iterate 9
       refine obsT_is (by decide) (fun w4 hE4 => ?_) ?_
       · obtain ⟨q1, q2, q3, q4⟩ := HROW.out w4 hE4
         go_wp2
         exact postT_is (Below.refl _ _)
       simp only [Act.put, sA, sB, sC]
     iterate 1
       refine obsT_skip (by decide) (by kernel_rfl) rfl ?_
       simp only [Act.put, sA, sB, sC]
     iterate 2
       refine obsT_is (by decide) (fun w4 hE4 => ?_) ?_
       · obtain ⟨q1, q2, q3, q4⟩ := HROW.out w4 hE4
         go_wp2
         exact postT_is (Below.refl _ _)
       simp only [Act.put, sA, sB, sC]
     iterate 5
       refine obsT_skip (by decide) (by kernel_rfl) rfl ?_
       simp only [Act.put, sA, sB, sC]
     iterate 1
       refine obsT_is (by decide) (fun w4 hE4 => ?_) ?_
       · obtain ⟨q1, q2, q3, q4⟩ := HROW.out w4 hE4
         go_wp2
         exact postT_is (Below.refl _ _)
       simp only [Act.put, sA, sB, sC]
     refine obsT_store (fun w4 hE4 r4 => ?_) ?_
     · go_wp2_with (refine wpList_store_row rfl 129 _ _ rfl w.heap.size _ rfl rfl 129 _ r4 (by kernel_rfl) (by simp) (by simp [Value.oneCell']) ?_)
       exact postT_stored (Spare.setRow (S := (· = w.heap.size)) rfl _) (r4.setRow _)
     simp only [Act.put]
     iterate 2
       refine obsT_is (by decide) (fun w4 hE4 => ?_) ?_
       · obtain ⟨q1, q2, q3, q4⟩ := HROW.out w4 hE4
         go_wp2
         exact postT_is (Below.refl _ _)
       simp only [Act.put, sA, sB, sC]
     refine obsT_end fun w5 hE5 r5 => ?_
     have B5 := hE5.below HB3.out.drew (fun b e => by rw [e]; exact Nat.le_refl _) HB3.out.drew.size
     change wpList _ _ _ _ _ _
     go_wp2
     exact bodyPost_ret (results_row_tmp2 rfl _ _ w.heap.size 129 _ _ rfl r5 Tryz.underlying129 rfl (by kernel_rfl)) rfl ⟨rfl, B5⟩
 | true, false =>
   obtain rfl : yes = false := by rw [HY.out]; rfl
   clear HE HY
   refine' wp_region_late 21 18 (· = w.heap.size) (fun W => Blk W w.heap.size 129 #[.string ⟨#[]⟩, .string ⟨#[]⟩]) (fun W => Blk W w.heap.size 129 #[.string b, .string b2]) (_ :: _ :: _ :: _ :: _ :: _ :: _ :: _ :: _ :: _ :: _ :: _ :: undef :: undef :: undef :: undef :: undef :: _ :: undef :: _ :: _ :: []) (by kernel_rfl) (by kernel_rfl) (by kernel_rfl) (by kernel_rfl) (by kernel_rfl) rfl HR2.out (fun W W' hb h => h.keep hb h.lt) (fun W W' hb h => h.keep hb h.lt) ?main
   case main =>
     iterate 12
       refine obsT_is (by decide) (fun w4 hE4 => ?_) ?_
       · obtain ⟨q1, q2, q3, q4⟩ := HROW.out w4 hE4
         go_wp2
         exact postT_is (Below.refl _ _)
       simp only [Act.put, sA, sB, sC]
     iterate 5
       refine obsT_skip (by decide) (by kernel_rfl) rfl ?_
       simp only [Act.put, sA, sB, sC]
     iterate 1
       refine obsT_is (by decide) (fun w4 hE4 => ?_) ?_
       · obtain ⟨q1, q2, q3, q4⟩ := HROW.out w4 hE4
         go_wp2
         exact postT_is (Below.refl _ _)
       simp only [Act.put, sA, sB, sC]
     refine obsT_store (fun w4 hE4 r4 => ?_) ?_
     · go_wp2_with (refine wpList_store_row rfl 129 _ _ rfl w.heap.size _ rfl rfl 129 _ r4 (by kernel_rfl) (by simp) (by simp [Value.oneCell']) ?_)
       exact postT_stored (Spare.setRow (S := (· = w.heap.size)) rfl _) (r4.setRow _)
     simp only [Act.put]
     iterate 2
       refine obsT_is (by decide) (fun w4 hE4 => ?_) ?_
       · obtain ⟨q1, q2, q3, q4⟩ := HROW.out w4 hE4
         go_wp2
         exact postT_is (Below.refl _ _)
       simp only [Act.put, sA, sB, sC]
     refine obsT_end fun w5 hE5 r5 => ?_
     have B5 := hE5.below HB3.out.drew (fun b e => by rw [e]; exact Nat.le_refl _) HB3.out.drew.size
     change wpList _ _ _ _ _ _
     go_wp2
     exact bodyPost_ret (results_row_tmp2 rfl _ _ w.heap.size 129 _ _ rfl r5 Tryz.underlying129 rfl (by kernel_rfl)) rfl ⟨rfl, B5⟩
 | true, true =>
   obtain rfl : yes = decide ((E : Int) = (E2 : Int)) := by rw [HY.out, HE.out _ rfl]; rfl
   clear HE HY
   refine' wp_region_late 21 18 (· = w.heap.size) (fun W => Blk W w.heap.size 129 #[.string ⟨#[]⟩, .string ⟨#[]⟩]) (fun W => Blk W w.heap.size 129 #[.string b, .string b2]) (_ :: _ :: _ :: _ :: _ :: _ :: _ :: _ :: _ :: _ :: _ :: _ :: _ :: _ :: _ :: _ :: _ :: _ :: undef :: _ :: _ :: []) (by kernel_rfl) (by kernel_rfl) (by kernel_rfl) (by kernel_rfl) (by kernel_rfl) rfl HR2.out (fun W W' hb h => h.keep hb h.lt) (fun W W' hb h => h.keep hb h.lt) ?main
   case main =>
     iterate 18
       refine obsT_is (by decide) (fun w4 hE4 => ?_) ?_
       · obtain ⟨q1, q2, q3, q4⟩ := HROW.out w4 hE4
         go_wp2
         exact postT_is (Below.refl _ _)
       simp only [Act.put, sA, sB, sC]
     refine obsT_store (fun w4 hE4 r4 => ?_) ?_
     · go_wp2_with (refine wpList_store_row rfl 129 _ _ rfl w.heap.size _ rfl rfl 129 _ r4 (by kernel_rfl) (by simp) (by simp [Value.oneCell']) ?_)
       exact postT_stored (Spare.setRow (S := (· = w.heap.size)) rfl _) (r4.setRow _)
     simp only [Act.put]
     iterate 2
       refine obsT_is (by decide) (fun w4 hE4 => ?_) ?_
       · obtain ⟨q1, q2, q3, q4⟩ := HROW.out w4 hE4
         go_wp2
         exact postT_is (Below.refl _ _)
       simp only [Act.put, sA, sB, sC]
     refine obsT_end fun w5 hE5 r5 => ?_
     have B5 := hE5.below HB3.out.drew (fun b e => by rw [e]; exact Nat.le_refl _) HB3.out.drew.size
     change wpList _ _ _ _ _ _
     go_wp2
     exact bodyPost_ret (results_row_tmp2 rfl _ _ w.heap.size 129 _ _ rfl r5 Tryz.underlying129 rfl (by kernel_rfl)) rfl ⟨rfl, B5⟩
end
end Go.Proofs.YtbplgbkbggmaeaaGreat

namespace Go.Proofs.YtbplgbkbggmaeaaGreat
open Go.RowKit
theorem zero128_c (w : World) : Calls Tryz.prog 61 #[] w fun e w' => e = .returned (.string zero128) ∧ Below w.heap.size w w' := zero_any w
section
variable {w : World} {F : Foot} {s gd base n t T : Nat} {D : Dk} {σ : Sg}
set_option maxRecDepth 100000 in
set_option maxHeartbeats 8000000 in
theorem soRead_zero (h : Stands7 w F s gd D base n t T σ) {i : Nat} (hi : i < n) (h3 : σ (3 + 2 * i) = none) (h4 : σ (4 + 2 * i) = none) :
   Calls Tryz.prog 29 #[.pointer (some ⟨s, 0, none⟩), .int .i64 i] w fun e w' => e = .returned (.tuple #[.agg #[.int .i64 0, .string noughts], .int .i64 0]) ∧ Below w.heap.size w w' := by
 have h8 := h.sto.n8
 have HH : Hid (∀ W, Below w.heap.size w W → _) := fun W hW => soHas_any (h.sto.below hW) i true (by rw [decide_eq_true]; exact ⟨by omega, by omega⟩)
 have HD : Hid (∀ W, Below w.heap.size w W → _) := fun W hW => dead_any (h.sto.below hW).disk
 rw [h.lies.gone] at HD
 have HM := Lib.hid (fun W => soHomes_any i (by omega) W)
 have T3 : Hid (∀ W, Below w.heap.size w W → _) := fun W hW => soText_any (h.below hW) (3 + 2 * i) (by omega)
 have T4 : Hid (∀ W, Below w.heap.size w W → _) := fun W hW => soText_any (h.below hW) (4 + 2 * i) (by omega)
 rw [secV_none h3] at T3
 rw [secV_none h4] at T4
 have hk : ((4 + 2 * i : Nat) : Int) = ((3 + 2 * i : Nat) : Int) + 1 := by omega
 rw [hk] at T4
 have hat : ((3 + 2 * i : Nat) : Int) ≤ 19 := by omega
 have hat0 : (0 : Int) ≤ ((3 + 2 * i : Nat) : Int) := by omega
 have hd0 : Hid (∀ W, Below w.heap.size w W → W.cell? ⟨s, 0, none⟩ = some (.pointer (some ⟨gd, 0, none⟩))) := fun W hW => (h.sto.below hW).cells.1
 clear h h3 h4 hk
 generalize 3 + 2 * i = at_ at *
 have R0 := Blk.new w 45 #[.int .i64 0, .string ⟨#[]⟩]
 have B0 := (Below.refl w.heap.size w).alloc (Nat.le_refl _) (.cells #[.int .i64 0, .string ⟨#[]⟩] 45)
 have HZ := Lib.hid (fun W => zero128_c W)
 have hzz : (zero128.toList == zero128.toList) = true := by simp
 generalize zero128 = z at *
 have c0 := hd0.out _ B0
 go_enter Tryz.func29, Tryz.ntmps29
 go_wp2_with fail
 refine (HH.out _ B0).mono ?_
 rintro e w1 ⟨rfl, rfl⟩
 go_wp2_with fail
 refine (HD.out _ B0).mono ?_
 rintro e w1 ⟨rfl, rfl⟩
 go_wp2_with fail
 refine (HM.out _).mono ?_
 rintro e w1 ⟨rfl, rfl⟩
 go_wp2_with fail
 refine (T3.out _ B0).mono ?_
 rintro e w2 ⟨rfl, hb2⟩
 have B2 := below2 B0 hb2
 have R2 := R0.keep hb2 R0.lt
 go_wp2_with fail
 refine (HZ.out _).mono ?_
 rintro e w3 ⟨rfl, hb3⟩
 have B3 := below2 B2 hb3
 have R3 := R2.keep hb3 R2.lt
 go_wp2_with fail
 refine (T4.out _ B3).mono ?_
 rintro e w4 ⟨rfl, hb4⟩
 have B4 := below2 B3 hb4
 have R4 := R3.keep hb4 R3.lt
 go_wp2_with fail
 refine (HZ.out _).mono ?_
 rintro e w5 ⟨rfl, hb5⟩
 have B5 := below2 B4 hb5
 have R5 := R4.keep hb5 R4.lt
 go_wp2_with fail
 refine (pgEmpty_any _).mono ?_
 rintro e w6 ⟨rfl, hb6⟩
 have B6 := below2 B5 hb6
 have R6 := R5.keep hb6 R5.lt
 clear R0 R2 R3 R4 R5 B2 B3 B4 B5 hb2 hb3 hb4 hb5 hb6 T3 T4 HM HD HH
 go_wp2_with (refine wpList_store_row rfl 45 _ _ rfl w.heap.size _ rfl rfl 45 _ R6 (by kernel_rfl) (by simp) (by simp [Value.oneCell']) ?_)
 exact bodyPost_ret (results_row_tmp rfl _ _ w.heap.size 45 _ _ rfl (R6.setRow _) Tryz.underlying45 rfl (by kernel_rfl)) rfl ⟨rfl, below_setRow B6 (Nat.le_refl _) _⟩
set_option maxRecDepth 100000 in
set_option maxHeartbeats 8000000 in
theorem soRead_some (h : Stands7 w F s gd D base n t T σ) {i e0 : Nat} {p : Pag} (hi : i < n) (hp : p.Right) (h3 : σ (3 + 2 * i) = some (e0, half p.bytes 0)) (h4 : σ (4 + 2 * i) = some (e0, half p.bytes 1)) :
   Calls Tryz.prog 29 #[.pointer (some ⟨s, 0, none⟩), .int .i64 i] w fun e w' => e = .returned (.tuple #[.agg #[.int .i64 p.1, .string p.2], .int .i64 0]) ∧ Below w.heap.size w w' := by
 have h8 := h.sto.n8
 have HH : Hid (∀ W, Below w.heap.size w W → _) := fun W hW => soHas_any (h.sto.below hW) i true (by rw [decide_eq_true]; exact ⟨by omega, by omega⟩)
 have HD : Hid (∀ W, Below w.heap.size w W → _) := fun W hW => dead_any (h.sto.below hW).disk
 rw [h.lies.gone] at HD
 have HM := Lib.hid (fun W => soHomes_any i (by omega) W)
 have T3 : Hid (∀ W, Below w.heap.size w W → _) := fun W hW => soText_any (h.below hW) (3 + 2 * i) (by omega)
 have HP : Hid (∀ W, Below w.heap.size w W → _) := fun W hW => soPair_any (h.below hW) (3 + 2 * i) (by omega)
 have hk : 3 + 2 * i + 1 = 4 + 2 * i := by omega
 have hpk : pairOk σ (3 + 2 * i) = true := by unfold pairOk sgE; rw [hk, h3, h4]; simp
 have hB0 : sgB σ (3 + 2 * i) = half p.bytes 0 := by unfold sgB; rw [h3]; rfl
 have hB1 : sgB σ (4 + 2 * i) = half p.bytes 1 := by unfold sgB; rw [h4]; rfl
 rw [hpk, hk, hB0, hB1] at HP
 have hx := h.tidy.at_ (k := 3 + 2 * i) (by omega) h3
 have hne : secV σ (3 + 2 * i) ≠ zero128 := by
   rw [secV_some h3]
   exact secOf_zero hx.2 (by omega) (by have := hx.1; have := h.few; simp only at *; omega)
 have hne2 : ((secV σ (3 + 2 * i)).toList == zero128.toList) = false := by
   rw [beq_eq_false_iff_ne]
   intro e
   rw [ByteArray.toList_eq, ByteArray.toList_eq] at e
   exact hne (str_ext e)
 have hz := Pag.bytes_size hp
 have hj : half p.bytes 0 ++ half p.bytes 1 = p.bytes := halves hz
 have hs0 := half_size hz (k := 0) (by omega)
 have hs1 := half_size hz (k := 1) (by omega)
 have HU := Lib.hid (fun W => pgUnpack_bytes hp W)
 have hat : ((3 + 2 * i : Nat) : Int) ≤ 19 := by omega
 have hat0 : (0 : Int) ≤ ((3 + 2 * i : Nat) : Int) := by omega
 have hd0 : Hid (∀ W, Below w.heap.size w W → W.cell? ⟨s, 0, none⟩ = some (.pointer (some ⟨gd, 0, none⟩))) := fun W hW => (h.sto.below hW).cells.1
 have HZ := Lib.hid (fun W => zero128_c W)
 clear h h3 h4 hk hpk hB0 hB1 hne hx hp hz
 rw [← hj] at HU
 clear hj
 obtain ⟨a, d⟩ := p
 simp only at HU ⊢
 generalize secV σ (3 + 2 * i) = x at *
 generalize zero128 = z at *
 generalize sgE σ (3 + 2 * i) = E at *
 generalize half (Pag.bytes (a, d)) 0 = ha at *
 generalize half (Pag.bytes (a, d)) 1 = hb at *
 generalize 3 + 2 * i = at_ at *
 have R0 := Blk.new w 45 #[.int .i64 0, .string ⟨#[]⟩]
 have B0 := (Below.refl w.heap.size w).alloc (Nat.le_refl _) (.cells #[.int .i64 0, .string ⟨#[]⟩] 45)
 have c0 := hd0.out _ B0
 go_enter Tryz.func29, Tryz.ntmps29
 go_wp2_with fail
 refine (HH.out _ B0).mono ?_
 rintro e w1 ⟨rfl, rfl⟩
 go_wp2_with fail
 refine (HD.out _ B0).mono ?_
 rintro e w1 ⟨rfl, rfl⟩
 go_wp2_with fail
 refine (HM.out _).mono ?_
 rintro e w1 ⟨rfl, rfl⟩
 go_wp2_with fail
 refine (T3.out _ B0).mono ?_
 rintro e w2 ⟨rfl, hb2⟩
 have B2 := below2 B0 hb2
 have R2 := R0.keep hb2 R0.lt
 go_wp2_with fail
 refine (HZ.out _).mono ?_
 rintro e w3 ⟨rfl, hb3⟩
 have B3 := below2 B2 hb3
 have R3 := R2.keep hb3 R2.lt
 go_wp2_with fail
 refine (HP.out _ B3).mono ?_
 rintro e w4 ⟨rfl, hb4⟩
 have B4 := below2 B3 hb4
 have R4 := R3.keep hb4 R3.lt
 have B5 := B4.alloc B4.size (.cells #[.string ha, .string hb] 129)
 have R5 := R4.alloc (.cells #[.string ha, .string hb] 129)
 clear R0 R2 R3 R4 B2 B3 B4 hb2 hb3 hb4 T3 HM HD HH HP HZ hne2
 have hsz : (ha.size : Int) + hb.size ≤ 224 := by omega
 go_wp2_with fail
 refine (HU.out _).mono ?_
 rintro e w6 ⟨rfl, hb6⟩
 have B6 := below2 B5 hb6
 have R6 := R5.keep hb6 R5.lt
 have B7 := B6.alloc B6.size (.cells #[.int .i64 a, .string d] 45)
 have R7 := R6.alloc (.cells #[.int .i64 a, .string d] 45)
 have X7 := Blk.new w6 45 #[.int .i64 a, .string d]
 clear B5 B6 R5 R6 hb6
 go_wp2_with (first
   | (refine wpList_load_row rfl 45 _ rfl w6.heap.size rfl 45 _ (0, 0) _ X7 Tryz.underlying45 rfl (by kernel_rfl) ?_)
   | (refine wpList_store_row rfl 45 _ _ rfl w.heap.size _ rfl rfl 45 _ R7 (by kernel_rfl) (by simp) (by simp [Value.oneCell']) ?_))
 exact bodyPost_ret (results_row_tmp rfl _ _ w.heap.size 45 _ _ rfl (R7.setRow _) Tryz.underlying45 rfl (by kernel_rfl)) rfl ⟨rfl, below_setRow B7 (Nat.le_refl _) _⟩
theorem soRead_any (h : Stands7 w F s gd D base n t T σ) {i : Nat} {p : Pag} (hi : i < n) (hp : HomeOk σ i p) :
   Calls Tryz.prog 29 #[.pointer (some ⟨s, 0, none⟩), .int .i64 i] w fun e w' => e = .returned (.tuple #[.agg #[.int .i64 p.1, .string p.2], .int .i64 0]) ∧ Below w.heap.size w w' := by
 rcases hp with ⟨h3, h4, rfl⟩ | ⟨hp, e, h3, h4⟩
 · exact soRead_zero h hi h3 h4
 · exact soRead_some h hi hp h3 h4
end
end Go.Proofs.YtbplgbkbggmaeaaGreat

namespace Go.Proofs.YtbplgbkbggmaeaaGreat
open Go.RowKit
section
variable {w : World} {F : Foot} {s gd base n t : Nat} {D : Dk}
set_option maxRecDepth 100000 in
theorem soPages_any (h : IsSto w F s gd D base n t) : Calls Tryz.prog 42 #[.pointer (some ⟨s, 0, none⟩)] w fun e w' => e = .returned (.int .i64 n) ∧ w = w' := by
 obtain ⟨_, _, c2, _⟩ := h.cells
 clear h
 go_enter Tryz.func42, Tryz.ntmps42
 go_wp2
 go_ret
 exact ⟨rfl, rfl⟩
set_option maxRecDepth 100000 in
set_option maxHeartbeats 4000000 in
theorem soRead_range (h : IsSto w F s gd D base n t) (i : Int) (hi : i < 0 ∨ (n : Int) ≤ i) :
   Calls Tryz.prog 29 #[.pointer (some ⟨s, 0, none⟩), .int .i64 i] w fun e w' => e = .returned (.tuple #[.agg #[.int .i64 0, .string ⟨#[]⟩], .int .i64 2]) ∧ Below w.heap.size w w' := by
 have HH : Hid (∀ W, Below w.heap.size w W → _) := fun W hW => soHas_any (h.below hW) i false (by rw [decide_eq_false]; omega)
 clear h hi
 have R0 := Blk.new w 45 #[.int .i64 0, .string ⟨#[]⟩]
 have B0 := (Below.refl w.heap.size w).alloc (Nat.le_refl _) (.cells #[.int .i64 0, .string ⟨#[]⟩] 45)
 go_enter Tryz.func29, Tryz.ntmps29
 go_wp2_with fail
 refine (HH.out _ B0).mono ?_
 rintro e w1 ⟨rfl, rfl⟩
 go_wp2_with (refine wpList_store_row rfl 45 _ _ rfl w.heap.size _ rfl rfl 45 _ R0 (by kernel_rfl) (by simp) (by simp [Value.oneCell']) ?_)
 exact bodyPost_ret (results_row_tmp rfl _ _ w.heap.size 45 _ _ rfl (R0.setRow _) Tryz.underlying45 rfl (by kernel_rfl)) rfl ⟨rfl, below_setRow B0 (Nat.le_refl _) _⟩
set_option maxRecDepth 100000 in
set_option maxHeartbeats 4000000 in
theorem soRead_dead (h : IsSto w F s gd D base n t) (hg : D.gone = true) {i : Nat} (hi : i < n) :
   Calls Tryz.prog 29 #[.pointer (some ⟨s, 0, none⟩), .int .i64 i] w fun e w' => e = .returned (.tuple #[.agg #[.int .i64 0, .string ⟨#[]⟩], .int .i64 4]) ∧ Below w.heap.size w w' := by
 have HH : Hid (∀ W, Below w.heap.size w W → _) := fun W hW => soHas_any (h.below hW) i true (by rw [decide_eq_true]; exact ⟨by omega, by omega⟩)
 have HD : Hid (∀ W, Below w.heap.size w W → _) := fun W hW => dead_any (h.below hW).disk
 rw [hg] at HD
 have hd0 : Hid (∀ W, Below w.heap.size w W → W.cell? ⟨s, 0, none⟩ = some (.pointer (some ⟨gd, 0, none⟩))) := fun W hW => (h.below hW).cells.1
 clear h hi
 have R0 := Blk.new w 45 #[.int .i64 0, .string ⟨#[]⟩]
 have B0 := (Below.refl w.heap.size w).alloc (Nat.le_refl _) (.cells #[.int .i64 0, .string ⟨#[]⟩] 45)
 have c0 := hd0.out _ B0
 go_enter Tryz.func29, Tryz.ntmps29
 go_wp2_with fail
 refine (HH.out _ B0).mono ?_
 rintro e w1 ⟨rfl, rfl⟩
 go_wp2_with fail
 refine (HD.out _ B0).mono ?_
 rintro e w1 ⟨rfl, rfl⟩
 go_wp2_with (refine wpList_store_row rfl 45 _ _ rfl w.heap.size _ rfl rfl 45 _ R0 (by kernel_rfl) (by simp) (by simp [Value.oneCell']) ?_)
 exact bodyPost_ret (results_row_tmp rfl _ _ w.heap.size 45 _ _ rfl (R0.setRow _) Tryz.underlying45 rfl (by kernel_rfl)) rfl ⟨rfl, below_setRow B0 (Nat.le_refl _) _⟩
set_option maxRecDepth 100000 in
theorem soNew_pages (base n : Int) (gd : Nat) (w : World) (h : n < 1 ∨ 8 < n) : Calls Tryz.prog 35 #[.pointer (some ⟨gd, 0, none⟩), .int .i64 base, .int .i64 n] w fun e w' => e = .returned (.tuple #[.pointer none, .int .i64 1]) ∧ w = w' := by
 by_cases h1 : n < 1
 · have a1 : decide (n < 1) = true := by simp [h1]
   go_enter Tryz.func35, Tryz.ntmps35
   go_wp2
   go_ret2
   exact ⟨rfl, rfl⟩
 · have h8 : 8 < n := by omega
   have a1 : decide (n < 1) = false := by simp [h1]
   have a2 : decide (8 < n) = true := by simp [h8]
   go_enter Tryz.func35, Tryz.ntmps35
   go_wp2
   go_ret2
   exact ⟨rfl, rfl⟩
end
end Go.Proofs.YtbplgbkbggmaeaaGreat
