/- Texts that belong together, joined: RpC, RpD. -/
import Derived.Test.YtbplgbkbggmaeaaGreatKrp
import Derived.Test.YtbplgbkbggmaeaaGreatKsob
import Derived.Test.YtbplgbkbggmaeaaGreatKso
namespace Go.Proofs.YtbplgbkbggmaeaaGreat
open Go.RowKit
section
variable {w : World} {F : Foot} {s gd base n t : Nat} {D : Dk}
theorem IsR7.tick (h : IsR7 w F s gd D base n t) (t' : Nat) : IsR7 (w.setCell ⟨s, 3, none⟩ (.int .i64 t')) F s gd D base n t' ∧ Step (OfS F s) (OfS F s) w (w.setCell ⟨s, 3, none⟩ (.int .i64 t')) :=
 ⟨⟨h.disk.keep (fun b hb => heap_setCell_other w ⟨s, 3, none⟩ b _ (fun e => h.apart (by have e : b = s := e; rw [← e]; exact hb))) (by simp [World.setCell]), h.ok, h.head.set 3 _, h.apart, h.b5, h.n8⟩, (Step.refl _ w).set (p := ⟨s, 3, none⟩) (.inr rfl) _⟩
theorem refPgPack {p : Pag} (hp : p.Right) (W : World) : Calls Tryz.prog 99 #[.agg #[.int .i64 p.1, .string p.2]] W fun e w' => e = .returned (.string p.bytes) ∧ Below W.heap.size W w' := by
 obtain ⟨⟨h0, h1⟩, h2⟩ := hp
 have k := pgRefPack_ok p.1.toNat p.2 W (by omega) h2
 rw [Int.toNat_of_nonneg h0] at k
 exact k
def Wrote7 (w : World) (F : Foot) (s gd base n t : Nat) (X : Dk × Nat) (e : Ending) (w' : World) : Prop :=
 e = .returned (.int .i64 (X.2 : Nat)) ∧ ∃ F', IsR7 w' F' s gd X.1 base n t ∧ Step (OfS F s) (OfS F' s) w w'
set_option maxRecDepth 100000 in
set_option maxHeartbeats 16000000 in
theorem rpWrite_ok (h : IsR7 w F s gd D base n t) {i : Nat} {p : Pag} (hi : i < n) (hp : p.Right) (ht : t < 4294967296) (hr : base + (3 + 2 * n) ≤ D.safe.length) (hw : D.waits.length + 8 < 16777216) :
   Calls Tryz.prog 74 #[.pointer (some ⟨s, 0, none⟩), .int .i64 i, .agg #[.int .i64 p.1, .string p.2]] w (Wrote7 w F s gd base n (t + 1) (acts ((writeSA i t p).map (SA.act base)) D)) := by
 have h8 := h.n8
 have hpb : p.bytes.size = 224 := Pag.bytes_size hp
 have hRT := Lib.hid (fun W => pgRefRight_any (w := W) (a := p.1) (d := p.2) true (by rw [decide_eq_true]; exact hp))
 have hPK := Lib.hid (fun W => refPgPack hp W)
 have ha : Body n 0 (half p.bytes 0) := by unfold Body; rw [if_neg (by omega)]; exact half_size hpb (k := 0) (by omega)
 have hb : Body n 1 (half p.bytes 1) := by unfold Body; rw [if_neg (by omega)]; exact half_size hpb (k := 1) (by omega)
 have hc : Body n 2 (oneB i) := by unfold Body; rw [if_pos rfl]; exact ⟨i, hi, rfl⟩
 have fa : ((SA.w 0 (t, half p.bytes 0)).act base).fits D.safe.length := ⟨by omega, secOf_size ha⟩
 have fb : ((SA.w 1 (t, half p.bytes 1)).act base).fits D.safe.length := ⟨by omega, secOf_size hb⟩
 have fc : ((SA.w 2 (t, oneB i)).act base).fits D.safe.length := ⟨by omega, secOf_size hc⟩
 have P1 : Hid (∀ W F', IsR7 W F' s gd D base n (t + 1) → _) := fun W F' hI => rpPut_any hI (k := 0) (E := t) (b := half p.bytes 0) (by omega) ha ht hr (by omega)
 have e1 := act_err fa
 obtain ⟨l1, l1'⟩ := act_len _ fa
 have hX : (writeSA i t p).map (SA.act base) = (SA.w 0 (t, half p.bytes 0)).act base :: (SA.w 1 (t, half p.bytes 1)).act base :: Act7.sync :: (SA.w 2 (t, oneB i)).act base :: Act7.sync :: (homeSA i t (half p.bytes 0) (half p.bytes 1)).map (SA.act base) := rfl
 rw [hX]
 simp only [acts_cons]
 generalize hx0 : (SA.w 0 (t, half p.bytes 0)).act base = x0 at *
 generalize hx1 : (SA.w 1 (t, half p.bytes 1)).act base = x1 at *
 generalize hx2 : (SA.w 2 (t, oneB i)).act base = x2 at *
 unfold Run7 at P1
 simp only [acts_one] at P1
 generalize x0.err D = r0 at *
 generalize x0.on D = D0 at *
 have P2 : Hid (∀ W F', IsR7 W F' s gd D0 base n (t + 1) → _) := fun W F' hI => rpPut_any hI (k := 1) (E := t) (b := half p.bytes 1) (by omega) hb ht (by rw [l1]; exact hr) (by omega)
 have fb' : x1.fits D0.safe.length := by rw [l1]; exact fb
 have e2 := act_err fb'
 obtain ⟨l2, l2'⟩ := act_len _ fb'
 unfold Run7 at P2
 simp only [acts_one] at P2
 rw [hx1] at P2
 generalize x1.err D0 = r1 at *
 generalize x1.on D0 = D1 at *
 have Q3 : Hid (∀ W F', IsR7 W F' s gd D1 base n (t + 1) → _) := fun W F' hI => rpSync_any hI
 have e3 := act_err (a := .sync) (D := D1) trivial
 obtain ⟨l3, l3'⟩ := act_len .sync (D := D1) trivial
 unfold Run7 at Q3
 simp only [acts_one] at Q3
 generalize Act7.err .sync D1 = r2 at *
 generalize Act7.on .sync D1 = D2 at *
 have P4 : Hid (∀ W F', IsR7 W F' s gd D2 base n (t + 1) → _) := fun W F' hI => rpPut_any hI (k := 2) (E := t) (b := oneB i) (by omega) hc ht (by rw [l3, l2, l1]; exact hr) (by omega)
 have fc' : x2.fits D2.safe.length := by rw [l3, l2, l1]; exact fc
 have e4 := act_err fc'
 obtain ⟨l4, l4'⟩ := act_len _ fc'
 unfold Run7 at P4
 simp only [acts_one] at P4
 rw [hx2] at P4
 generalize x2.err D2 = r3 at *
 generalize x2.on D2 = D3 at *
 have Q5 : Hid (∀ W F', IsR7 W F' s gd D3 base n (t + 1) → _) := fun W F' hI => rpSync_any hI
 have e5 := act_err (a := .sync) (D := D3) trivial
 obtain ⟨l5, l5'⟩ := act_len .sync (D := D3) trivial
 unfold Run7 at Q5
 simp only [acts_one] at Q5
 generalize Act7.err .sync D3 = r4 at *
 generalize Act7.on .sync D3 = D4 at *
 have P6 : Hid (∀ W F', IsR7 W F' s gd D4 base n (t + 1) → _) := fun W F' hI => rpHomes_any hI (i := i) (E := t) (b := p.bytes) hi hpb ht (by rw [l5, l4, l3, l2, l1]; exact hr) (by omega)
 unfold Run7 at P6
 have hh0 : half p.bytes 0 = p.bytes.extract 0 112 := rfl
 have hh1 : half p.bytes 1 = p.bytes.extract 112 224 := rfl
 generalize acts ((homeSA i t (half p.bytes 0) (half p.bytes 1)).map (SA.act base)) D4 = XH at *
 rw [hh0] at P1
 rw [hh1] at P2
 have hid0 : ((idxOf 0 : Nat) : Int) = 0 := rfl
 have hid1 : ((idxOf 1 : Nat) : Int) = 1 := rfl
 have hid2 : ((idxOf 2 : Nat) : Int) = 2 := rfl
 rw [hid0] at P1
 rw [hid1] at P2
 rw [hid2] at P4
 have hi8 : (i : Int) < 8 := by omega
 have hin : (i : Int) < (n : Int) := by omega
 have hbI : (p.bytes.size : Int) = 224 := by omega
 have ht2 : IntKind.wrap .i64 ((t : Int) + 1) = (t : Int) + 1 := by rw [IntKind.wrap_i64]; omega
 have ht3 : ((t + 1 : Nat) : Int) = (t : Int) + 1 := by omega
 have H := Lib.hid h
 have HSL := Lib.hid h.head.lt
 obtain ⟨a, d⟩ := p
 simp only at hRT hPK ⊢
 unfold Wrote7
 have X0 := Blk.new w 45 #[.int .i64 a, .string d]
 have B0 := (Below.refl w.heap.size w).alloc (Nat.le_refl _) (.cells #[.int .i64 a, .string d] 45)
 clear h hp hpb ha hb hc fa fb fc fb' fc' l1 l1' l2 l2' l3 l3' l4 l4' l5 l5' hX hx0 hx1 hx2 hh0 hh1 hid0 hid1 hid2 hr hw ht h8 hi
 generalize Pag.bytes (a, d) = pb at *
 go_enter Tryz.func74, Tryz.ntmps74
 go_upto_region 1 with fail
 change Code.wp _ _ _ _ (w.alloc (.cells #[.int .i64 a, .string d] 45))
 have I0 := Lib.hid (H.out.below B0)
 have X0' := Lib.hid X0
 have B0' := Lib.hid B0
 clear H X0 B0
 generalize w.alloc (.cells #[.int .i64 a, .string d] 45) = w0 at *
 have HNE : Hid (w.heap.size ≠ s) := by show _ ≠ _; have := HSL.out; omega
 clear HSL
 obtain ⟨-, -, c2, -⟩ := I0.out.cells
 have x0 := X0'.out
 go_wp2_with (refine wpList_load_row rfl 45 _ rfl w.heap.size rfl 45 _ (0, 0) _ x0 Tryz.underlying45 rfl (by kernel_rfl) ?_)
 refine (hRT.out _).mono ?_
 rintro e w1 ⟨rfl, hb1⟩
 have B1 := Lib.hid (below2 B0'.out hb1)
 have X1 := Lib.hid (X0'.out.keep hb1 X0'.out.lt)
 have I1 := Lib.hid (I0.out.below hb1)
 clear hb1 B0' X0' I0 x0 c2 hRT
 obtain ⟨-, -, -, c3⟩ := I1.out.cells
 have f3 := I1.out.head.frozen 3
 obtain ⟨hi2, hs2⟩ := I1.out.tick (t + 1)
 rw [ht3] at hi2 hs2
 have I2 := Lib.hid hi2
 have S2 := Lib.hid ((Step.ofBelow (F := OfS F s) B1.out).trans hs2)
 have X2 := X1.out.far (p := ⟨s, 3, none⟩) HNE.out (.int .i64 ((t : Int) + 1))
 clear hi2 hs2 I1 X1 B1 HNE
 go_upto_region 7 with fail
 change Code.wp _ _ _ _ (w1.setCell ⟨s, 3, none⟩ (.int .i64 ((t : Int) + 1)))
 generalize w1.setCell ⟨s, 3, none⟩ (.int .i64 ((t : Int) + 1)) = w2 at *
 clear c3 f3
 go_wp2_with (refine wpList_load_row rfl 45 _ rfl w.heap.size rfl 45 _ (0, 0) _ X2 Tryz.underlying45 rfl (by kernel_rfl) ?_)
 refine (hPK.out _).mono ?_
 rintro e w3 ⟨rfl, hb3⟩
 have I3 := Lib.hid (I2.out.below hb3)
 have S3 := Lib.hid (S2.out.more hb3)
 clear hb3 I2 S2 X2 hPK
 go_wp2_with fail
 refine wp_loop_rounds 3 ?_
 rw [rounds_succ]
 go_wp2_with fail
 refine (P1.out _ _ I3.out).mono ?_
 rintro e w4 ⟨rfl, F4, hi4, hs4⟩
 have I4 := Lib.hid hi4
 have S4 := Lib.hid (S3.out.trans hs4.ofS)
 clear hi4 hs4 I3 S3 P1
 rcases e1.symm with rfl | rfl
 · go_wp2
   go_ret
   exact ⟨rfl, F4, I4.out, S4.out⟩
 go_wp2_with fail
 rw [rounds_succ]
 go_wp2_with fail
 refine (P2.out _ _ I4.out).mono ?_
 rintro e w5 ⟨rfl, F5, hi5, hs5⟩
 have I5 := Lib.hid hi5
 have S5 := Lib.hid (S4.out.trans hs5.ofS)
 clear hi5 hs5 I4 S4 P2
 rcases e2.symm with rfl | rfl
 · go_wp2
   go_ret
   exact ⟨rfl, F5, I5.out, S5.out⟩
 obtain ⟨c0, -⟩ := I5.out.cells
 go_wp2_with fail
 rw [rounds_succ]
 go_wp2_with fail
 refine (Q3.out _ _ I5.out).mono ?_
 rintro e w6 ⟨rfl, F6, hi6, hs6⟩
 have I6 := Lib.hid hi6
 have S6 := Lib.hid (S5.out.trans hs6.ofS)
 clear hi6 hs6 I5 S5 Q3 c0
 rcases e3.symm with rfl | rfl
 · go_wp2
   go_ret
   exact ⟨rfl, F6, I6.out, S6.out⟩
 have bl := (Blk.new w6 5 (bytesV [UInt8.ofNat i]))
 have hbv : bytesV [UInt8.ofNat i] = #[.int .u8 (i : Int)] := by
   have : (UInt8.ofNat i).toNat = i := by simp; omega
   simp [bytesV, this]
 have hcv := conv_blk bl 0 1 1 (by simp) 136 5 9 Tryz.underlying136 Tryz.underlying5 Tryz.underlying9
 have hone : (⟨((([UInt8.ofNat i] : List UInt8).drop 0).take 1).toArray⟩ : ByteArray) = oneB i := rfl
 rw [hone] at hcv
 rw [hbv] at hcv
 clear bl hbv hone
 go_wp2_with fail
 have ba : Below w6.heap.size w6 (w6.alloc (.cells #[.int .u8 (i : Int)] 5)) := (Below.refl _ _).alloc (Nat.le_refl _) _
 refine (P4.out _ _ (I6.out.below ba)).mono ?_
 rintro e w7 ⟨rfl, F7, hi7, hs7⟩
 have I7 := Lib.hid hi7
 have S7 := Lib.hid ((S6.out.more ba).trans hs7.ofS)
 clear hi7 hs7 ba hcv I6 S6 P4
 rcases e4.symm with rfl | rfl
 · go_wp2
   go_ret
   exact ⟨rfl, F7, I7.out, S7.out⟩
 obtain ⟨c0, -⟩ := I7.out.cells
 go_wp2_with fail
 refine (Q5.out _ _ I7.out).mono ?_
 rintro e w8 ⟨rfl, F8, hi8', hs8⟩
 have I8 := Lib.hid hi8'
 have S8 := Lib.hid (S7.out.trans hs8.ofS)
 clear hi8' hs8 I7 S7 Q5 c0
 rcases e5.symm with rfl | rfl
 · go_wp2
   go_ret
   exact ⟨rfl, F8, I8.out, S8.out⟩
 go_wp2_with fail
 refine (P6.out _ _ I8.out).mono ?_
 rintro e w9 ⟨rfl, F9, hi9, hs9⟩
 have I9 := Lib.hid hi9
 have S9 := Lib.hid (S8.out.trans hs9.ofS)
 clear hi9 hs9 I8 S8 P6
 go_wp2
 go_ret
 exact ⟨rfl, F9, I9.out, S9.out⟩
end
end Go.Proofs.YtbplgbkbggmaeaaGreat

namespace Go.Proofs.YtbplgbkbggmaeaaGreat
open Go.RowKit
structure Stands7r (w : World) (F : Foot) (s gd : Nat) (D : Dk) (base n t T : Nat) (σ : Sg) : Prop where
 sto : IsR7 w F s gd D base n t
 lies : Lies D base n σ
 tidy : Tidy n T σ
 few : T ≤ 4294967296
theorem Stands7r.below {w w' : World} {F : Foot} {s gd base n t T : Nat} {D : Dk} {σ : Sg} (h : Stands7r w F s gd D base n t T σ) (hb : Below w.heap.size w w') : Stands7r w' F s gd D base n t T σ := ⟨h.sto.below hb, h.lies, h.tidy, h.few⟩
section
variable {w : World} {F : Foot} {s gd base n t T : Nat} {D : Dk} {σ : Sg}
theorem refUnpackSec (ht : Tidy n T σ) (hn : n ≤ 8) (hlt : T ≤ 4294967296) {k : Nat} (hk : k < 3 + 2 * n) (w : World) :
   Calls Tryz.prog 92 #[.string (secV σ k)] w fun x w' => x = .returned (.tuple #[.agg #[.int .u32 (sgE σ k : Nat), .int .u32 (sgI σ k : Nat), .string (sgB σ k)], .bool (σ k).isSome]) ∧ Below w.heap.size w w' := by
 unfold sgE sgI sgB
 cases h : σ k with
 | none =>
   rw [secV_none h, zero_zeros]
   exact refUnpack_no _ w zeros_not
 | some x =>
   obtain ⟨e, b⟩ := x
   have hx := ht.at_ hk h
   obtain ⟨h1, h2, h3, h4⟩ := secOf_slab hx.2 (by omega) (by have := hx.1; simp only at this ⊢; omega)
   rw [secV_some h]
   have := refUnpack_yes (secOf k (e, b)) w h1
   rw [h2, h3, h4] at this
   exact this
theorem rpDisk_read (h : Stands7r w F s gd D base n t T σ) (k : Nat) (hk : k < 3 + 2 * n) : ∀ W, Below w.heap.size w W → Calls Tryz.prog 65 #[.pointer (some ⟨gd, 0, none⟩), .int .i64 ((base : Int) + (k : Int))] W fun e w' => e = .returned (.tuple #[.string (secV σ k), .int .i64 0]) ∧ W = w' := fun W hW => by
 obtain ⟨h1, h2, h3⟩ := h.lies.sec hk
 have := refRead_any h.sto.ok (h.sto.disk.below hW) ((base + k : Nat) : Int)
 rw [h1, h3] at this
 exact this
set_option maxRecDepth 100000 in
set_option maxHeartbeats 8000000 in
theorem rpSlab_any (h : Stands7r w F s gd D base n t T σ) (k : Nat) (hk : k < 3 + 2 * n) :
   Calls Tryz.prog 66 #[.pointer (some ⟨s, 0, none⟩), .int .i64 k] w fun e w' => e = .returned (.tuple #[.agg #[.int .u32 (sgE σ k : Nat), .int .u32 (sgI σ k : Nat), .string (sgB σ k)], .bool (σ k).isSome]) ∧ Below w.heap.size w w' := by
 have HR := Lib.hid (rpDisk_read h k hk)
 have HU := Lib.hid (fun W => refUnpackSec h.tidy h.sto.n8 h.few hk W)
 have C : Hid (∀ W, Below w.heap.size w W → W.cell? ⟨s, 0, none⟩ = some (.pointer (some ⟨gd, 0, none⟩)) ∧ W.cell? ⟨s, 1, none⟩ = some (.int .i64 base)) := fun W hW => ⟨(h.sto.below hW).cells.1, (h.sto.below hW).cells.2.1⟩
 have b1 : (base : Int) ≤ 512 := by have := h.sto.b5; omega
 have b2 : (k : Int) ≤ 19 := by have := h.sto.n8; omega
 have R0 := Blk.new w 138 #[.int .u32 0, .int .u32 0, .string ⟨#[]⟩]
 have B0 := (Below.refl w.heap.size w).alloc (Nat.le_refl _) (.cells #[.int .u32 0, .int .u32 0, .string ⟨#[]⟩] 138)
 clear h hk
 generalize secV σ k = x at *
 generalize sgE σ k = E at *
 generalize sgB σ k = b at *
 generalize sgI σ k = I at *
 generalize (σ k).isSome = yes at *
 go_enter Tryz.func66, Tryz.ntmps66
 go_upto_region 1 with fail
 change Code.wp _ _ _ _ (w.alloc (.cells #[.int .u32 0, .int .u32 0, .string ⟨#[]⟩] 138))
 have HB0 := Lib.hid B0
 have HR0 := Lib.hid R0
 clear B0 R0
 generalize w.alloc (.cells #[.int .u32 0, .int .u32 0, .string ⟨#[]⟩] 138) = w1 at *
 refine' wp_region_conf 16 (.is _ :: .is _ :: .is _ :: .is _ :: .is _ :: .is _ :: .is _ :: .is _ :: .is _ :: .is _ :: .is _ :: .is _ :: .is _ :: .is _ :: .is _ :: .is _ :: []) (by kernel_rfl) (by kernel_rfl) (by kernel_rfl) (by kernel_rfl) rfl ?main
 case main =>
   iterate 16
     refine obs_is (fun w4 hE4 _ => ?_) ?_
     · have hb4 := below2 HB0.out ((Below.refl w1.heap.size w1).drew.trans hE4)
       obtain ⟨d0, d1⟩ := C.out w4 hb4
       go_wp2_with (go_at_call 65; refine (HR.out _ hb4).mono ?_; rintro e w5 ⟨rfl, rfl⟩)
       exact post_is (Below.refl _ _)
     simp only [Act.put, sA, sB, sC]
   refine obs_end fun w3 hE3 _ => ?_
   have hb3 : Below w1.heap.size w1 w3 := (Below.refl w1.heap.size w1).drew.trans hE3
   have HB3 := Lib.hid (below2 HB0.out hb3)
   have R3 := Lib.hid (HR0.out.keep hb3 HR0.out.lt)
   clear hE3 hb3 HB0 HR0 C HR
   change wpList _ _ _ _ _ _
   go_wp2_with fail
   refine (HU.out _).mono ?_
   rintro e w6 ⟨rfl, hb6⟩
   have B6 := Lib.hid (below2 HB3.out hb6)
   have R6 := R3.out.keep hb6 R3.out.lt
   clear hb6 HB3 R3 HU
   go_wp2_with (refine wpList_store_row rfl 138 _ _ rfl w.heap.size _ rfl rfl 138 _ R6 (by kernel_rfl) (by simp) (by simp [Value.oneCell']) ?_)
   exact bodyPost_ret (results_row_tmp rfl _ _ w.heap.size 138 _ _ rfl (R6.setRow _) Tryz.underlying138 rfl (by kernel_rfl)) rfl ⟨rfl, below_setRow B6.out (Nat.le_refl _) _⟩
end
end Go.Proofs.YtbplgbkbggmaeaaGreat
