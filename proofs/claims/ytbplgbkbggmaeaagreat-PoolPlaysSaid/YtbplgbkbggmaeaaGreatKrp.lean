/- Texts that belong together, joined: RpA, RpB, PgH. -/
import Derived.Test.YtbplgbkbggmaeaaGreatKrefd
import Derived.Test.YtbplgbkbggmaeaaGreatKrefslab
import Derived.Test.YtbplgbkbggmaeaaGreatKso
import Derived.Test.YtbplgbkbggmaeaaGreatKpg
import Derived.Test.YtbplgbkbggmaeaaGreatKrecs
import Derived.Test.YtbplgbkbggmaeaaGreatKbase
import Derived.Test.YtbplgbkbggmaeaaGreatKreg
namespace Go.Proofs.YtbplgbkbggmaeaaGreat
open Go.RowKit
structure IsR7 (w : World) (F : Foot) (s gd : Nat) (D : Dk) (base n t : Nat) : Prop where
 disk : IsRef w F gd D
 ok : D.Ok
 head : Blk w s 89 (stoCells gd base n t)
 apart : ¬ F s
 b5 : base ≤ 512
 n8 : n ≤ 8
namespace IsR7
variable {w w' : World} {F F' : Foot} {s gd base n t : Nat} {D D' : Dk}
theorem below (h : IsR7 w F s gd D base n t) (hb : Below w.heap.size w w') : IsR7 w' F s gd D base n t := ⟨h.disk.below hb, h.ok, h.head.keep hb h.head.lt, h.apart, h.b5, h.n8⟩
theorem onDisk (h : IsR7 w F s gd D base n t) (hd : IsRef w' F' gd D') (ho : D'.Ok) (hs : Step F F' w w') : IsR7 w' F' s gd D' base n t :=
 ⟨hd, ho, (hs.block s h.head.lt h.apart).trans h.head, fun hF => by rcases hs.foot s hF with h1 | h1; exact h.apart h1; have := h.head.lt; omega, h.b5, h.n8⟩
theorem cells (h : IsR7 w F s gd D base n t) : w.cell? ⟨s, 0, none⟩ = some (.pointer (some ⟨gd, 0, none⟩)) ∧ w.cell? ⟨s, 1, none⟩ = some (.int .i64 base) ∧ w.cell? ⟨s, 2, none⟩ = some (.int .i64 n) ∧ w.cell? ⟨s, 3, none⟩ = some (.int .i64 t) :=
 ⟨h.head.cell 0, h.head.cell 1, h.head.cell 2, h.head.cell 3⟩
end IsR7
def Run7 (w : World) (F : Foot) (s gd base n t : Nat) (ls : List Act7) (D : Dk) (e : Ending) (w' : World) : Prop :=
 e = .returned (.int .i64 ((acts ls D).2 : Nat)) ∧ ∃ F', IsR7 w' F' s gd (acts ls D).1 base n t ∧ Step F F' w w'
section
variable {w : World} {F : Foot} {s gd base n t : Nat} {D : Dk}
theorem refPackSec {b : ByteArray} {k : Nat} (hb : Body n k b) (hk : k < 19) {e : Nat} (he : e < 4294967296) (w : World) :
   Calls Tryz.prog 97 #[.agg #[.int .u32 (e : Nat), .int .u32 (idxOf k : Nat), .string b]] w fun x w' => x = .returned (.string (secOf k (e, b))) ∧ Below w.heap.size w w' :=
 refPack_any e (idxOf k) b w he (by unfold idxOf; split <;> omega) hb.size
theorem rpSync_any (h : IsR7 w F s gd D base n t) : Calls Tryz.prog 98 #[.pointer (some ⟨gd, 0, none⟩)] w (Run7 w F s gd base n t [.sync] D) := by
 refine (refSync_any h.ok h.disk).mono ?_
 rintro e w' ⟨rfl, hd, hs⟩
 unfold Run7
 rw [acts_one]
 exact ⟨rfl, F, h.onDisk hd h.ok.sync hs, hs⟩
set_option maxRecDepth 100000 in
set_option maxHeartbeats 8000000 in
theorem rpPut_any (h : IsR7 w F s gd D base n t) {k E : Nat} {b : ByteArray} (hk : k < 3 + 2 * n) (hb : Body n k b) (he : E < 4294967296) (hr : base + (3 + 2 * n) ≤ D.safe.length) (hw : D.waits.length < 16777216) :
   Calls Tryz.prog 100 #[.pointer (some ⟨s, 0, none⟩), .int .i64 k, .int .i64 E, .int .i64 (idxOf k : Nat), .string b] w (Run7 w F s gd base n t [(SA.w k (E, b)).act base] D) := by
 have h8 := h.n8
 have hfit : ((SA.w k (E, b)).act base).fits D.safe.length := ⟨by omega, secOf_size hb⟩
 unfold Run7
 rw [acts_one]
 have e0 : Act7.err ((SA.w k (E, b)).act base) D = D.writeE ((base : Int) + k) (secOf k (E, b)) := rfl
 have e1 : Act7.on ((SA.w k (E, b)).act base) D = D.write ((base : Int) + k) (secOf k (E, b)) := rfl
 simp only [e0, e1]
 have ok := h.ok.write ((base : Int) + k) (secOf k (E, b))
 have PK := Lib.hid (fun W => refPackSec hb (show k < 19 by omega) he W)
 have WR : Hid (∀ W, Below w.heap.size w W → _) := fun W hW => refWrite_any h.ok (h.disk.below hW) ((base : Int) + k) (secOf k (E, b)) hw
 have H := Lib.hid h
 have OK := Lib.hid ok
 have C : Hid (∀ W, Below w.heap.size w W → W.cell? ⟨s, 0, none⟩ = some (.pointer (some ⟨gd, 0, none⟩)) ∧ W.cell? ⟨s, 1, none⟩ = some (.int .i64 base)) := fun W hW => ⟨(h.below hW).cells.1, (h.below hW).cells.2.1⟩
 have b1 : (base : Int) ≤ 512 := by have := h.b5; omega
 have b2 : (k : Int) ≤ 19 := by omega
 have u1 : IntKind.u32.wrap (E : Int) = E := by rw [IntKind.wrap_u32]; omega
 have u2 : IntKind.u32.wrap ((idxOf k : Nat) : Int) = (idxOf k : Nat) := by rw [IntKind.wrap_u32]; unfold idxOf; split <;> omega
 clear h hk hb he hr hw hfit e0 e1 ok h8
 generalize secOf k (E, b) = x at *
 generalize idxOf k = ix at *
 generalize D.writeE ((base : Int) + k) x = er at *
 generalize D.write ((base : Int) + k) x = D1 at *
 go_enter Tryz.func100, Tryz.ntmps100
 go_upto_region 1 with fail
 refine' wp_region_conf 17 (.is _ :: .is _ :: .is _ :: .is _ :: .is _ :: .is _ :: .is _ :: .is _ :: .is _ :: .is _ :: .is _ :: .is _ :: .is _ :: .is _ :: .is _ :: .is _ :: .is _ :: []) (by kernel_rfl) (by kernel_rfl) (by kernel_rfl) (by kernel_rfl) rfl ?main
 case main =>
   iterate 17
     refine obs_is (fun w4 hE4 _ => ?_) ?_
     · have hb4 := (Below.refl _ _).drew.trans hE4
       obtain ⟨d0, d1⟩ := C.out w4 hb4
       go_wp2_with (go_at_call 97; refine (PK.out _).mono ?_; rintro e w6 ⟨rfl, hb6⟩)
       first | exact post_is hb6 | exact post_is (Below.refl _ _)
     simp only [Act.put, sA, sB, sC]
   refine obs_end fun w3 hE3 _ => ?_
   have HB3 : Hid (Below w.heap.size w w3) := (Below.refl w.heap.size w).drew.trans hE3
   clear hE3
   change wpList _ _ _ _ _ _
   go_wp2_with fail
   refine (WR.out _ HB3.out).mono ?_
   rintro e w7 ⟨rfl, F', hd, hs⟩
   have FIN := Lib.hid ((H.out.below HB3.out).onDisk hd OK.out hs)
   have ST := Lib.hid ((Step.ofBelow (F := F) HB3.out).trans hs)
   clear hd hs
   go_wp2
   go_ret
   exact ⟨rfl, F', FIN.out, ST.out⟩
end
end Go.Proofs.YtbplgbkbggmaeaaGreat

namespace Go.Proofs.YtbplgbkbggmaeaaGreat
open Go.RowKit
section
variable {w : World} {F : Foot} {s gd base n t : Nat} {D : Dk}
set_option maxRecDepth 100000 in
set_option maxHeartbeats 8000000 in
theorem rpHomes_any (h : IsR7 w F s gd D base n t) {i E : Nat} {b : ByteArray} (hi : i < n) (hbs : b.size = 224) (he : E < 4294967296) (hr : base + (3 + 2 * n) ≤ D.safe.length) (hw : D.waits.length + 3 < 16777216) :
   Calls Tryz.prog 101 #[.pointer (some ⟨s, 0, none⟩), .int .i64 i, .int .i64 E, .string b] w (Run7 w F s gd base n t ((homeSA i E (half b 0) (half b 1)).map (SA.act base)) D) := by
 have h8 := h.n8
 have ha : Body n (3 + 2 * i) (half b 0) := by unfold Body; rw [if_neg (by omega)]; exact half_size hbs (k := 0) (by omega)
 have hb : Body n (4 + 2 * i) (half b 1) := by unfold Body; rw [if_neg (by omega)]; exact half_size hbs (k := 1) (by omega)
 have fa : ((SA.w (3 + 2 * i) (E, half b 0)).act base).fits D.safe.length := ⟨by omega, secOf_size ha⟩
 have fb : ((SA.w (4 + 2 * i) (E, half b 1)).act base).fits D.safe.length := ⟨by omega, secOf_size hb⟩
 have ea := act_err fa
 obtain ⟨l1, l2⟩ := act_len _ fa
 have P1 := Lib.hid (rpPut_any h (k := 3 + 2 * i) (E := E) (b := half b 0) (by omega) ha he hr (by omega))
 have fb1 : ((SA.w (4 + 2 * i) (E, half b 1)).act base).fits (((SA.w (3 + 2 * i) (E, half b 0)).act base).on D).safe.length := by rw [l1]; exact fb
 have eb := act_err fb1
 have es := act_err (a := .sync) (D := ((SA.w (4 + 2 * i) (E, half b 1)).act base).on (((SA.w (3 + 2 * i) (E, half b 0)).act base).on D)) trivial
 have P2 : Hid (∀ W F', IsR7 W F' s gd (((SA.w (3 + 2 * i) (E, half b 0)).act base).on D) base n t → _) := fun W F' hI => rpPut_any hI (k := 4 + 2 * i) (E := E) (b := half b 1) (by omega) hb he (by rw [l1]; exact hr) (by omega)
 have k1 : ((3 + 2 * i : Nat) : Int) = 3 + 2 * (i : Int) := by omega
 have k2 : ((4 + 2 * i : Nat) : Int) = 3 + 2 * (i : Int) + 1 := by omega
 have k3 : ((idxOf (3 + 2 * i) : Nat) : Int) = 2 * (i : Int) := by unfold idxOf; rw [if_neg (by omega)]; omega
 have k4 : ((idxOf (4 + 2 * i) : Nat) : Int) = 2 * (i : Int) + 1 := by unfold idxOf; rw [if_neg (by omega)]; omega
 rw [k1, k3] at P1
 rw [k2, k4] at P2
 have hi8 : (i : Int) ≤ 8 := by omega
 have hbI : (b.size : Int) = 224 := by omega
 clear h hi ha hb he hr hw fa fb fb1 l1 l2 k1 k2 k3 k4 h8
 unfold Run7 at P1 P2 ⊢
 unfold homeSA
 simp only [List.map_cons, List.map_nil, acts_cons]
 simp only [acts_one] at P1 P2
 have hsync : SA.act base SA.sync = Act7.sync := rfl
 rw [hsync]
 have hh0 : half b 0 = b.extract 0 112 := rfl
 have hh1 : half b 1 = b.extract 112 224 := rfl
 generalize (SA.w (3 + 2 * i) (E, half b 0)).act base = x at *
 generalize (SA.w (4 + 2 * i) (E, half b 1)).act base = y at *
 rw [hh0] at P1
 rw [hh1] at P2
 generalize x.err D = r1 at *
 generalize x.on D = D1 at *
 generalize y.err D1 = r2 at *
 generalize y.on D1 = D2 at *
 have SY : Hid (∀ W F', IsR7 W F' s gd D2 base n t → _) := fun W F' hI => rpSync_any hI
 unfold Run7 at SY
 simp only [acts_one] at SY
 generalize Act7.err .sync D2 = r3 at *
 generalize Act7.on .sync D2 = D3 at *
 clear hh0 hh1 hsync
 go_enter Tryz.func101, Tryz.ntmps101
 go_wp2_with fail
 refine wp_loop_rounds 3 ?_
 rw [rounds_succ]
 go_wp2_with fail
 refine P1.out.mono ?_
 rintro e w1 ⟨rfl, F1, hi1, hs1⟩
 have I1 := Lib.hid hi1
 have S1 := Lib.hid hs1
 clear hi1 hs1
 rcases ea with rfl | rfl
 · go_wp2_with fail
   rw [rounds_succ]
   go_wp2_with fail
   refine (P2.out _ _ I1.out).mono ?_
   rintro e w2 ⟨rfl, F2, hi2, hs2⟩
   have I2 := Lib.hid hi2
   have S2 := Lib.hid (S1.out.trans hs2)
   clear hi2 hs2
   rcases eb with rfl | rfl
   · have c2 := I2.out.cells.1
     go_wp2_with fail
     rw [rounds_succ]
     go_wp2_with fail
     refine (SY.out _ _ I2.out).mono ?_
     rintro e w3 ⟨rfl, F3, hi3, hs3⟩
     have I3 := Lib.hid hi3
     have S3 := Lib.hid (S2.out.trans hs3)
     clear hi3 hs3
     rcases es with rfl | rfl
     · go_wp2
       go_ret
       exact ⟨rfl, F3, I3.out, S3.out⟩
     · go_wp2
       go_ret
       exact ⟨rfl, F3, I3.out, S3.out⟩
   · go_wp2
     go_ret
     exact ⟨rfl, F2, I2.out, S2.out⟩
 · go_wp2
   go_ret
   exact ⟨rfl, F1, I1.out, S1.out⟩
end
end Go.Proofs.YtbplgbkbggmaeaaGreat

namespace Go.Proofs.YtbplgbkbggmaeaaGreat
open Go.RowKit
set_option maxRecDepth 100000 in
set_option maxHeartbeats 4000000 in
theorem pgRefPack_ok (A : Nat) (d : ByteArray) (w : World) (hA : A ≤ 2147483647) (hd : d.size = 220) : Calls Tryz.prog 99 #[.agg #[.int .i64 A, .string d]] w fun e w' => e = .returned (.string (packS A d)) ∧ Below w.heap.size w w' := by
 have hp : Hid ((⟨(be4 A).toArray⟩ : ByteArray) ++ d = packS A d) := by
   show _ = _
   apply str_ext
   rw [packS_data]
   simp [ByteArray.data_append]
 have hadd : ∀ W, (Op.stringOp .add (⟨(be4 A).toArray⟩ : ByteArray) d).run Tryz.prog W = .ok (.string ((⟨(be4 A).toArray⟩ : ByteArray) ++ d)) W := fun W => run_string_add_sum W _ _ (by rw [hd]; show 4 + 220 ≤ _; omega)
 have F := Lib.hid (fun W => four_any A (by omega) W)
 have ha : (A : Int) < 4294967296 := by omega
 generalize (⟨(be4 A).toArray⟩ : ByteArray) = b4 at *
 have X0 := Blk.new w 45 #[.int .i64 A, .string d]
 have hB := (Below.refl w.heap.size w).alloc (Nat.le_refl _) (.cells #[.int .i64 A, .string d] 45)
 go_enter Tryz.func99, Tryz.ntmps99
 go_wp2_with fail
 generalize hg : w.heap.size = g at *
 have hG := Lib.hid hg
 clear hg
 generalize (w.alloc (.cells #[.int .i64 A, .string d] 45)) = w1 at *
 refine' wp_region_conf 7 [.is _, .is _, .is _, .is _, .is _, .is _, .is _] (by kernel_rfl) (by kernel_rfl) (by kernel_rfl) (by kernel_rfl) rfl ?main
 case main =>
   iterate 7
     refine obs_is (fun w2 hE2 _ => ?_) ?_
     · have hb2 := X0.drew.keep hE2 X0.lt
       have c0 := hb2.cellAt (i := 0) (by simp)
       have c1 := hb2.cellAt (i := 1) (by simp)
       simp at c0 c1
       clear hb2
       go_wp2_with (go_at_call 111; refine (F.out _).mono ?_; rintro e w3 ⟨rfl, hb3⟩)
       first | exact post_is hb3 | exact post_is (Below.refl _ _)
     simp only [Act.put, sA, sB, sC]
   refine obs_end fun w3 hE3 _ => ?_
   have hB3 : Below g w w3 := hB.drew.trans (hE3.mono (by have := hB.size; rw [hG.out] at this; exact this))
   clear hadd X0 hB hE3 F
   go_wp2
   go_ret
   refine ⟨?_, by rw [hG.out]; exact hB3⟩
   rw [hp.out]
   rfl
set_option maxRecDepth 100000 in
set_option maxHeartbeats 4000000 in
theorem pgRefUnpack_rest (s : ByteArray) (w : World) (h : s.size = 224) (yes : Bool) (hy : yes = decide (num4 s.data.toList ≤ 2147483647)) : Calls Tryz.prog 67 #[.string s] w fun e w' => e = .returned (.tuple (if yes then #[.agg #[.int .i64 (num4 s.data.toList : Nat), .string (s.extract 4 s.size)], .bool true] else #[.agg #[.int .i64 0, .string ⟨#[]⟩], .bool false])) ∧ Below w.heap.size w w' := by
 have h1 : ((s.size : Int) != 224) = false := by simp [h]
 have P := Lib.hid (fun W => pgRefRight_any (num4 s.data.toList : Nat) (s.extract 4 s.size) W yes (by
   rw [hy, decide_eq_decide]
   unfold PgOk Num
   rw [ByteArray.size_extract]
   constructor
   · intro h2; omega
   · rintro ⟨⟨_, h3⟩, _⟩; omega))
 have M := Lib.hid (fun W => number_any s W (by omega))
 have hlt : (num4 s.data.toList : Int) < 4294967296 := by
   unfold num4
   have a := (s.data.toList.getD 0 0).toNat_lt
   have b := (s.data.toList.getD 1 0).toNat_lt
   have c := (s.data.toList.getD 2 0).toNat_lt
   have d := (s.data.toList.getD 3 0).toNat_lt
   omega
 have hsl := slice_from (P := Tryz.prog) 9 Tryz.underlying9 s 4 .i64 4 (by omega) (by omega)
 clear hy
 generalize num4 s.data.toList = n at *
 generalize s.extract 4 s.size = b at *
 have R0 := Blk.new w 45 #[.int .i64 0, .string ⟨#[]⟩]
 have hB := (Below.refl w.heap.size w).alloc (Nat.le_refl _) (.cells #[.int .i64 0, .string ⟨#[]⟩] 45)
 go_enter Tryz.func67, Tryz.ntmps67
 go_wp2_with fail
 clear h1 h
 generalize hg : w.heap.size = g at *
 have hG := Lib.hid hg
 clear hg
 generalize (w.alloc (.cells #[.int .i64 0, .string ⟨#[]⟩] 45)) = w1 at *
 refine' wp_region_conf 7 [.is _, .is _, .is _, .is _, .is _, .is _, .ptr w1.heap.size 45 #[.int .i64 0, .string ⟨#[]⟩]] (by kernel_rfl) (by kernel_rfl) (by kernel_rfl) (by kernel_rfl) rfl ?main
 case main =>
   iterate 6
     refine obs_is (fun w2 hE2 _ => ?_) ?_
     · go_wp2_with (go_at_call 93; refine (M.out _).mono ?_; rintro e w3 ⟨rfl, hb3⟩)
       first | exact post_is hb3 | exact post_is (Below.refl _ _)
     simp only [Act.put, sA, sB, sC]
   refine obs_ptr (fun w2 hE2 _ => ?_) (fun x => ?_)
   · go_wp2
     exact ⟨_, rfl, ⟨w2.heap.size, hE2.size, rfl, Blk.new _ _ _⟩, (Below.refl _ _).alloc (Nat.le_refl _) _⟩
   simp only [Act.put, sA, sB, sC]
   refine obs_end fun w3 hE3 hk => ?_
   obtain ⟨g2, hg2, rfl, hb2⟩ := hk _ (List.mem_cons_self)
   clear hk
   have hgs : g ≤ w1.heap.size := by have := hB.size; rw [hG.out] at this; exact this
   have hB3 : Below g w w3 := hB.drew.trans (hE3.mono hgs)
   have R3 := R0.drew.keep hE3 R0.lt
   have hne : g ≠ g2 := by have := R0.lt; omega
   have hgg : g ≤ g2 := by omega
   refine wpList_store_row rfl 45 _ _ rfl g2 #[.int .i64 n, .string b] rfl rfl 45 _ hb2 (by kernel_rfl) (by simp) (by simp [Value.oneCell']) ?_
   have X4 := hb2.setRow #[.int .i64 n, .string b]
   have R4 := R3.farRow hne #[.int .i64 n, .string b]
   have hB4 := below_setRow hB3 (g := g2) hgg #[.int .i64 n, .string b]
   simp only [Act.put]
   generalize w3.setRow g2 _ = w4 at *
   clear hsl hlt M R0 hB hE3 hg2 hb2 hB3 R3
   have c0 := X4.cellAt (i := 0) (by simp)
   have c1 := X4.cellAt (i := 1) (by simp)
   simp at c0 c1
   go_wp2_with fail
   refine (P.out _).mono ?_
   rintro e w5 ⟨rfl, hb⟩
   have R5 := R4.keep hb R4.lt
   have X5 := X4.keep hb X4.lt
   have d0 := X5.cellAt (i := 0) (by simp)
   have d1 := X5.cellAt (i := 1) (by simp)
   simp at d0 d1
   have hB5 := hB4.trans (hb.mono (by have := hB4.size; rw [hG.out] at this; exact this))
   clear c0 c1 X4 R4 hb P hB4
   cases yes
   all_goals
     go_wp2_with (refine wpList_store_row rfl 45 _ _ rfl g _ rfl rfl 45 _ R5 (by kernel_rfl) (by simp) (by simp [Value.oneCell']) ?_)
     exact bodyPost_ret (results_row_tmp rfl _ _ g 45 _ _ rfl (R5.setRow _) Tryz.underlying45 rfl (by kernel_rfl)) rfl ⟨rfl, by rw [hG.out]; exact below_setRow hB5 (Nat.le_refl _) _⟩
theorem pgRefUnpack_yes (s : ByteArray) (w : World) (h : IsPage s) : Calls Tryz.prog 67 #[.string s] w fun e w' => e = .returned (.tuple #[.agg #[.int .i64 (num4 s.data.toList : Nat), .string (s.extract 4 s.size)], .bool true]) ∧ Below w.heap.size w w' :=
 pgRefUnpack_rest s w h.1 true (by simp [h.2])
end Go.Proofs.YtbplgbkbggmaeaaGreat
