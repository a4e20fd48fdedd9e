/- Texts that belong together, joined: SoA, SoB, SoC, SoD, SoE. -/
import Derived.Test.YtbplgbkbggmaeaaGreatKdisk
import Derived.Test.YtbplgbkbggmaeaaGreatKst
import Derived.Test.YtbplgbkbggmaeaaGreatKreg
import Derived.Tactics
import Derived.Tactics2
import Derived.Defers
import Derived.Recover
import Derived.Laws.Pointers
namespace Go.Proofs.YtbplgbkbggmaeaaGreat
open Go.RowKit
def stoCells (gd base n t : Nat) : Array Value := #[.pointer (some ⟨gd, 0, none⟩), .int .i64 base, .int .i64 n, .int .i64 t]
structure IsSto (w : World) (F : Foot) (s gd : Nat) (D : Dk) (base n t : Nat) : Prop where
 disk : IsDisk w F gd D
 head : Blk w s 126 (stoCells gd base n t)
 apart : ¬ F s
 b5 : base ≤ 512
 n8 : n ≤ 8
namespace IsSto
variable {w w' : World} {F F' : Foot} {s gd base n t : Nat} {D D' : Dk}
theorem below (h : IsSto w F s gd D base n t) (hb : Below w.heap.size w w') : IsSto w' F s gd D base n t := ⟨h.disk.below hb, h.head.keep hb h.head.lt, h.apart, h.b5, h.n8⟩
theorem onDisk (h : IsSto w F s gd D base n t) (hd : IsDisk w' F' gd D') (hs : Step F F' w w') : IsSto w' F' s gd D' base n t :=
 ⟨hd, (hs.block s h.head.lt h.apart).trans h.head, fun hF => by rcases hs.foot s hF with h1 | h1; exact h.apart h1; have := h.head.lt; omega, h.b5, h.n8⟩
theorem cells (h : IsSto w F s gd D base n t) : w.cell? ⟨s, 0, none⟩ = some (.pointer (some ⟨gd, 0, none⟩)) ∧ w.cell? ⟨s, 1, none⟩ = some (.int .i64 base) ∧ w.cell? ⟨s, 2, none⟩ = some (.int .i64 n) ∧ w.cell? ⟨s, 3, none⟩ = some (.int .i64 t) := ⟨h.head.cell 0, h.head.cell 1, h.head.cell 2, h.head.cell 3⟩
end IsSto
section
variable {w : World} {F : Foot} {s gd base n t : Nat} {D : Dk}
set_option maxRecDepth 100000 in
theorem soHas_any (h : IsSto w F s gd D base n t) (i : Int) (yes : Bool) (hy : yes = decide (0 ≤ i ∧ i < n)) :
   Calls Tryz.prog 58 #[.pointer (some ⟨s, 0, none⟩), .int .i64 i] w fun e w' => e = .returned (.bool yes) ∧ w = w' := by
 obtain ⟨_, _, c2, _⟩ := h.cells
 clear h
 go_enter Tryz.func58, Tryz.ntmps58
 by_cases h0 : 0 ≤ i
 · by_cases h1 : i < n
   · rw [decide_eq_true ⟨h0, h1⟩] at hy
     subst hy
     go_wp2
     go_ret
     exact ⟨rfl, rfl⟩
   · rw [decide_eq_false (fun h => h1 h.2)] at hy
     subst hy
     go_wp2
     go_ret
     exact ⟨rfl, rfl⟩
 · rw [decide_eq_false (fun h => h0 h.1)] at hy
   subst hy
   go_wp2
   go_ret
   exact ⟨rfl, rfl⟩
set_option maxRecDepth 100000 in
theorem soHomes_any (i : Nat) (hi : i ≤ 1000) (w : World) : Calls Tryz.prog 59 #[.int .i64 i] w fun e w' => e = .returned (.int .i64 (3 + 2 * i : Nat)) ∧ w = w' := by
 have h1 : (i : Int) ≤ 1000 := by omega
 clear hi
 go_enter Tryz.func59, Tryz.ntmps59
 go_wp2
 go_ret
 exact ⟨by congr 2, rfl⟩
set_option maxRecDepth 100000 in
theorem soIndex_any (k : Nat) (hk : k ≤ 1000) (w : World) : Calls Tryz.prog 117 #[.int .i64 k] w fun e w' => e = .returned (.int .u32 (idxOf k : Nat)) ∧ w = w' := by
 have h1 : (k : Int) ≤ 1000 := by omega
 unfold idxOf
 by_cases h : k < 3
 · have h2 : ¬ (3 : Int) ≤ k := by omega
   rw [if_pos h]
   have h3 : (k : Int) % 4294967296 = k := by omega
   clear h hk
   go_enter Tryz.func117, Tryz.ntmps117
   go_wp2
   go_ret
   exact ⟨by congr 2, rfl⟩
 · have h2 : (3 : Int) ≤ k := by omega
   rw [if_neg h]
   have h3 : ((k - 3 : Nat) : Int) = (k : Int) - 3 := by omega
   rw [h3]
   clear h hk h3
   go_enter Tryz.func117, Tryz.ntmps117
   go_wp2
   go_ret
   exact ⟨rfl, rfl⟩
set_option maxRecDepth 100000 in
theorem soSectors_any (n : Nat) (hn : n ≤ 8) (w : World) : Calls Tryz.prog 70 #[.int .i64 n] w fun e w' => e = .returned (.int .i64 (3 + 2 * n : Nat)) ∧ w = w' := by
 have h1 : (n : Int) ≤ 8 := by omega
 have h0 : ¬ (n : Int) < 0 := by omega
 clear hn
 go_enter Tryz.func70, Tryz.ntmps70
 go_wp2
 go_ret
 exact ⟨by congr 2, rfl⟩
set_option maxRecDepth 100000 in
set_option maxHeartbeats 1000000 in
theorem soNew_ok (h : IsDisk w F gd D) (base n : Nat) (h1 : 1 ≤ n) (h8 : n ≤ 8) (hr : base + (3 + 2 * n) ≤ D.safe.length) :
   Calls Tryz.prog 35 #[.pointer (some ⟨gd, 0, none⟩), .int .i64 base, .int .i64 n] w fun e w' => ∃ s, e = .returned (.tuple #[.pointer (some ⟨s, 0, none⟩), .int .i64 0]) ∧ IsSto w' F s gd D base n 1 ∧ w.heap.size ≤ s ∧ Below w.heap.size w w' := by
 have hN := h.1.le
 have HS := Lib.hid (size_any h)
 have HC := Lib.hid (soSectors_any n h8)
 have H := Lib.hid h
 have a1 : decide ((n : Int) < 1) = false := by simp; omega
 have a2 : decide ((8 : Int) < (n : Int)) = false := by simp; omega
 have a3 : decide ((base : Int) < 0) = false := by simp
 have a4 : ¬ ((D.safe.length : Int) - ((3 + 2 * n : Nat) : Int) < (base : Int)) := by omega
 have a5 : (D.safe.length : Int) ≤ 512 := by omega
 have a6 : ((3 + 2 * n : Nat) : Int) ≤ 19 := by omega
 have a7 : (0 : Int) ≤ ((3 + 2 * n : Nat) : Int) := by omega
 have HB := Lib.hid (show base ≤ 512 by omega)
 have H8 := Lib.hid h8
 clear h h1 h8 hr hN
 generalize D.safe.length = N at *
 generalize 3 + 2 * n = c at *
 go_enter Tryz.func35, Tryz.ntmps35
 go_wp2_with fail
 refine HS.out.mono ?_
 rintro e w1 ⟨rfl, rfl⟩
 go_wp2_with fail
 refine (HC.out _).mono ?_
 rintro e w1 ⟨rfl, rfl⟩
 go_wp2
 go_ret2
 refine ⟨w.heap.size, rfl, ⟨H.out.below ((Below.refl _ _).alloc (Nat.le_refl _) _), Blk.new _ _ _, fun hF => by have := H.out.lt _ hF; omega, HB.out, H8.out⟩, Nat.le_refl _, (Below.refl _ _).alloc (Nat.le_refl _) _⟩
end
end Go.Proofs.YtbplgbkbggmaeaaGreat

namespace Go.Proofs.YtbplgbkbggmaeaaGreat
open Go.RowKit
structure Stands7 (w : World) (F : Foot) (s gd : Nat) (D : Dk) (base n t T : Nat) (σ : Sg) : Prop where
 sto : IsSto w F s gd D base n t
 lies : Lies D base n σ
 tidy : Tidy n T σ
 few : T ≤ 4294967296
theorem Stands7.below {w w' : World} {F : Foot} {s gd base n t T : Nat} {D : Dk} {σ : Sg} (h : Stands7 w F s gd D base n t T σ) (hb : Below w.heap.size w w') : Stands7 w' F s gd D base n t T σ := ⟨h.sto.below hb, h.lies, h.tidy, h.few⟩
def sgE (σ : Sg) (k : Nat) : Nat := ((σ k).map (·.1)).getD 0
def sgB (σ : Sg) (k : Nat) : ByteArray := ((σ k).map (·.2)).getD ⟨#[]⟩
def sgI (σ : Sg) (k : Nat) : Nat := if (σ k).isSome then idxOf k else 0
def sgX (σ : Sg) (k : Nat) : Nat := if (σ k).isSome then 0 else 8
section
variable {w : World} {F : Foot} {s gd base n t T : Nat} {D : Dk} {σ : Sg}
set_option maxRecDepth 100000 in
set_option maxHeartbeats 1000000 in
theorem soText_any (h : Stands7 w F s gd D base n t T σ) (k : Nat) (hk : k < 3 + 2 * n) :
   Calls Tryz.prog 60 #[.pointer (some ⟨s, 0, none⟩), .int .i64 k] w fun e w' => e = .returned (.string (secV σ k)) ∧ Below w.heap.size w w' := by
 obtain ⟨h1, h2, h3⟩ := h.lies.sec hk
 have HR : Hid (∀ W, Below w.heap.size w W → Calls Tryz.prog 89 #[.pointer (some ⟨gd, 0, none⟩), .int .i64 ((base : Int) + (k : Int))] W fun e w' => e = .returned (.tuple #[.string (secV σ k), .int .i64 0]) ∧ Below W.heap.size W w') := fun W hW => by
   have := read_any (h.sto.disk.below hW) ((base + k : Nat) : Int)
   rw [h1, h3] at this
   exact this
 obtain ⟨c0, c1, _⟩ := h.sto.cells
 have b1 : (base : Int) ≤ 512 := by have := h.sto.b5; omega
 have b2 : (k : Int) ≤ 19 := by have := h.sto.n8; omega
 clear h h1 h2 h3 hk
 generalize secV σ k = x at *
 go_enter Tryz.func60, Tryz.ntmps60
 go_wp2_with fail
 have C : Hid (∀ W, Below w.heap.size w W → W.cell? ⟨s, 0, none⟩ = some (.pointer (some ⟨gd, 0, none⟩)) ∧ W.cell? ⟨s, 1, none⟩ = some (.int .i64 base)) := fun W hW => ⟨(hW.cell (p := ⟨s, 0, none⟩) (World.block_lt_of_cell? w _ c0)).trans c0, (hW.cell (p := ⟨s, 1, none⟩) (World.block_lt_of_cell? w _ c1)).trans c1⟩
 clear c0 c1
 refine' wp_region_conf 16 (.is _ :: .is _ :: .is _ :: .is _ :: .is _ :: .is _ :: .is _ :: .is _ :: .is _ :: .is _ :: .is _ :: .is _ :: .is _ :: .is _ :: .is _ :: .is _ :: []) (by kernel_rfl) (by kernel_rfl) (by kernel_rfl) (by kernel_rfl) rfl ?main
 case main =>
   iterate 16
     refine obs_is (fun w4 hE4 _ => ?_) ?_
     · have hb4 := (Below.refl w.heap.size w).drew.trans hE4
       obtain ⟨d0, d1⟩ := C.out w4 hb4
       go_wp2_with (go_at_call 89; refine (HR.out _ hb4).mono ?_; rintro e w5 ⟨rfl, hb5⟩)
       first | exact post_is hb5 | exact post_is (Below.refl _ _)
     simp only [Act.put, sA, sB, sC]
   refine obs_end fun w3 hE3 _ => ?_
   have HB := Lib.hid ((Below.refl w.heap.size w).drew.trans hE3)
   clear hE3
   change wpList _ _ _ _ _ _
   go_wp2
   go_ret
   exact ⟨rfl, HB.out⟩
theorem unpackSec_any (ht : Tidy n T σ) (hn : n ≤ 8) (hlt : T ≤ 4294967296) {k : Nat} (hk : k < 3 + 2 * n) (w : World) :
   Calls Tryz.prog 116 #[.string (secV σ k)] w fun x w' => x = .returned (.tuple #[.agg #[.int .u32 (sgE σ k : Nat), .int .u32 (sgI σ k : Nat), .string (sgB σ k)], .int .i64 (sgX σ k : Nat)]) ∧ Below w.heap.size w w' := by
 unfold sgE sgI sgB sgX
 cases h : σ k with
 | none => exact unpackSec_none h w
 | some x => exact unpackSec_some ht hn hk hlt h w
set_option maxRecDepth 100000 in
set_option maxHeartbeats 1000000 in
theorem soSlab_any (h : Stands7 w F s gd D base n t T σ) (k : Nat) (hk : k < 3 + 2 * n) :
   Calls Tryz.prog 91 #[.pointer (some ⟨s, 0, none⟩), .int .i64 k] w fun e w' => e = .returned (.tuple #[.agg #[.int .u32 (sgE σ k : Nat), .int .u32 (sgI σ k : Nat), .string (sgB σ k)], .bool (σ k).isSome]) ∧ Below w.heap.size w w' := by
 have H := Lib.hid h
 have HT : Hid (∀ W, Below w.heap.size w W → _) := fun W hW => soText_any (h.below hW) k hk
 have HU := Lib.hid (fun W => unpackSec_any h.tidy h.sto.n8 h.few hk W)
 have hk19 : k ≤ 19 := by have := h.sto.n8; omega
 have HI := Lib.hid (fun W => soIndex_any k (by omega) W)
 have hz : sgX σ k = if (σ k).isSome then 0 else 8 := rfl
 have hi : sgI σ k = if (σ k).isSome then idxOf k else 0 := rfl
 clear h hk
 generalize secV σ k = x at *
 generalize sgE σ k = E at *
 generalize sgB σ k = b at *
 generalize sgI σ k = I at *
 generalize sgX σ k = X at *
 generalize idxOf k = ix at *
 have R0 := (Blk.new w 138 #[.int .u32 0, .int .u32 0, .string ⟨#[]⟩])
 have B0 := (Below.refl w.heap.size w).alloc (Nat.le_refl _) (.cells #[.int .u32 0, .int .u32 0, .string ⟨#[]⟩] 138)
 by_cases hs : (σ k).isSome = true
 · rw [if_pos hs] at hz hi
   subst hz hi
   rw [hs]
   clear hs
   go_enter Tryz.func91, Tryz.ntmps91
   go_wp2_with fail
   refine (HT.out _ B0).mono ?_
   rintro e w1 ⟨rfl, hb1⟩
   go_wp2_with fail
   refine (HU.out _).mono ?_
   rintro e w2 ⟨rfl, hb2⟩
   go_upto_region 2 with fail
   have B2 := below2 (below2 B0 hb1) hb2
   have hg : w.heap.size < w2.heap.size := by have := hb1.size; have := hb2.size; have := R0.lt; omega
   have R2 := (R0.keep (below2 hb1 hb2) R0.lt).alloc (.cells #[.int .u32 E, .int .u32 I, .string b] 138)
   have X2 := Blk.new w2 138 #[.int .u32 E, .int .u32 I, .string b]
   have B3 := B2.alloc B2.size (.cells #[.int .u32 E, .int .u32 I, .string b] 138)
   change Code.wp _ _ _ _ (w2.alloc (.cells #[.int .u32 E, .int .u32 I, .string b] 138))
   have hx : w.heap.size ≠ w2.heap.size := by omega
   clear R0 B0 hb1 hb2 B2 HT HU hg
   generalize w2.alloc (.cells #[.int .u32 E, .int .u32 I, .string b] 138) = w3 at *
   generalize w2.heap.size = x at *
   have hrow : ∀ W, Spare (· = w.heap.size) w3.drew W → Blk W x 138 #[.int .u32 E, .int .u32 I, .string b] ∧ W.cell? ⟨x, 1, none⟩ = some (.int .u32 I) := fun W hW => by
     have := hW.keep X2.drew (fun e => hx e.symm)
     exact ⟨this, this.cell 1⟩
   have HROW := Lib.hid hrow
   have HR2 := Lib.hid R2
   have HB3 := Lib.hid B3
   have HX2 := Lib.hid X2
   clear hrow R2 B3 X2
   refine' wp_region_late 12 10 (· = w.heap.size) (fun W => Blk W w.heap.size 138 #[.int .u32 0, .int .u32 0, .string ⟨#[]⟩]) (fun W => Blk W w.heap.size 138 #[.int .u32 E, .int .u32 I, .string b]) (_ :: _ :: _ :: _ :: _ :: _ :: _ :: _ :: _ :: _ :: undef :: _ :: []) (by kernel_rfl) (by kernel_rfl) (by kernel_rfl) (by kernel_rfl) (by kernel_rfl) rfl HR2.out (fun W W' hb h => h.keep hb h.lt) (fun W W' hb h => h.keep hb h.lt) ?main
   case main =>
     iterate 10
       refine obsT_is (by decide) (fun w4 hE4 => ?_) ?_
       · obtain ⟨q1, q2⟩ := HROW.out w4 hE4
         go_wp2_with (first
           | (go_at_call 117; refine (HI.out _).mono ?_; rintro e w5 ⟨rfl, rfl⟩)
           | (refine wpList_load_row rfl 138 _ rfl x rfl 138 _ (0, 0) _ q1 Tryz.underlying138 rfl (by kernel_rfl) ?_))
         exact postT_is (Below.refl _ _)
       simp only [Act.put, sA, sB, sC]
     refine obsT_store (fun w4 hE4 r4 => ?_) ?_
     · go_wp2_with (refine wpList_store_row rfl 138 _ _ rfl w.heap.size _ rfl rfl 138 _ r4 (by kernel_rfl) (by simp) (by simp [Value.oneCell']) ?_)
       exact postT_stored (Spare.setRow (S := (· = w.heap.size)) rfl _) (r4.setRow _)
     simp only [Act.put]
     iterate 1
       refine obsT_is (by decide) (fun w4 hE4 => ?_) ?_
       · go_wp2
         exact postT_is (Below.refl _ _)
       simp only [Act.put, sA, sB, sC]
     refine obsT_end fun w5 hE5 r5 => ?_
     have B5 := hE5.below HB3.out.drew (fun b e => by rw [e]; exact Nat.le_refl _) HB3.out.drew.size
     change wpList _ _ _ _ _ _
     go_wp2
     exact bodyPost_ret (results_row_tmp rfl _ _ w.heap.size 138 _ _ rfl r5 Tryz.underlying138 rfl (by kernel_rfl)) rfl ⟨rfl, B5⟩
 · rw [if_neg hs] at hz hi
   subst hz hi
   rw [Bool.not_eq_true] at hs
   rw [hs]
   clear hs
   go_enter Tryz.func91, Tryz.ntmps91
   go_wp2_with fail
   refine (HT.out _ B0).mono ?_
   rintro e w1 ⟨rfl, hb1⟩
   go_wp2_with fail
   refine (HU.out _).mono ?_
   rintro e w2 ⟨rfl, hb2⟩
   go_upto_region 2 with fail
   have B2 := below2 (below2 B0 hb1) hb2
   have hg : w.heap.size < w2.heap.size := by have := hb1.size; have := hb2.size; have := R0.lt; omega
   have R2 := (R0.keep (below2 hb1 hb2) R0.lt).alloc (.cells #[.int .u32 E, .int .u32 0, .string b] 138)
   have X2 := Blk.new w2 138 #[.int .u32 E, .int .u32 0, .string b]
   have B3 := B2.alloc B2.size (.cells #[.int .u32 E, .int .u32 0, .string b] 138)
   change Code.wp _ _ _ _ (w2.alloc (.cells #[.int .u32 E, .int .u32 0, .string b] 138))
   have hx : w.heap.size ≠ w2.heap.size := by omega
   clear R0 B0 hb1 hb2 B2 HT HU hg
   generalize w2.alloc (.cells #[.int .u32 E, .int .u32 0, .string b] 138) = w3 at *
   generalize w2.heap.size = x at *
   have hrow : ∀ W, Spare (· = w.heap.size) w3.drew W → Blk W x 138 #[.int .u32 E, .int .u32 0, .string b] ∧ W.cell? ⟨x, 1, none⟩ = some (.int .u32 0) := fun W hW => by
     have := hW.keep X2.drew (fun e => hx e.symm)
     exact ⟨this, this.cell 1⟩
   have HROW := Lib.hid hrow
   have HR2 := Lib.hid R2
   have HB3 := Lib.hid B3
   have HX2 := Lib.hid X2
   clear hrow R2 B3 X2
   refine' wp_region_late 12 10 (· = w.heap.size) (fun W => Blk W w.heap.size 138 #[.int .u32 0, .int .u32 0, .string ⟨#[]⟩]) (fun W => Blk W w.heap.size 138 #[.int .u32 E, .int .u32 0, .string b]) (_ :: _ :: _ :: _ :: undef :: undef :: undef :: undef :: undef :: _ :: undef :: _ :: []) (by kernel_rfl) (by kernel_rfl) (by kernel_rfl) (by kernel_rfl) (by kernel_rfl) rfl HR2.out (fun W W' hb h => h.keep hb h.lt) (fun W W' hb h => h.keep hb h.lt) ?main
   case main =>
     iterate 4
       refine obsT_is (by decide) (fun w4 hE4 => ?_) ?_
       · obtain ⟨q1, q2⟩ := HROW.out w4 hE4
         go_wp2_with (first
           | (go_at_call 117; refine (HI.out _).mono ?_; rintro e w5 ⟨rfl, rfl⟩)
           | (refine wpList_load_row rfl 138 _ rfl x rfl 138 _ (0, 0) _ q1 Tryz.underlying138 rfl (by kernel_rfl) ?_))
         exact postT_is (Below.refl _ _)
       simp only [Act.put, sA, sB, sC]
     iterate 5
       refine obsT_skip (by decide) (by kernel_rfl) rfl ?_
       simp only [Act.put, sA, sB, sC]
     iterate 1
       refine obsT_is (by decide) (fun w4 hE4 => ?_) ?_
       · obtain ⟨q1, q2⟩ := HROW.out w4 hE4
         go_wp2_with (first
           | (go_at_call 117; refine (HI.out _).mono ?_; rintro e w5 ⟨rfl, rfl⟩)
           | (refine wpList_load_row rfl 138 _ rfl x rfl 138 _ (0, 0) _ q1 Tryz.underlying138 rfl (by kernel_rfl) ?_))
         exact postT_is (Below.refl _ _)
       simp only [Act.put, sA, sB, sC]
     refine obsT_store (fun w4 hE4 r4 => ?_) ?_
     · go_wp2_with (refine wpList_store_row rfl 138 _ _ rfl w.heap.size _ rfl rfl 138 _ r4 (by kernel_rfl) (by simp) (by simp [Value.oneCell']) ?_)
       exact postT_stored (Spare.setRow (S := (· = w.heap.size)) rfl _) (r4.setRow _)
     simp only [Act.put]
     iterate 1
       refine obsT_is (by decide) (fun w4 hE4 => ?_) ?_
       · go_wp2
         exact postT_is (Below.refl _ _)
       simp only [Act.put, sA, sB, sC]
     refine obsT_end fun w5 hE5 r5 => ?_
     have B5 := hE5.below HB3.out.drew (fun b e => by rw [e]; exact Nat.le_refl _) HB3.out.drew.size
     change wpList _ _ _ _ _ _
     go_wp2
     exact bodyPost_ret (results_row_tmp rfl _ _ w.heap.size 138 _ _ rfl r5 Tryz.underlying138 rfl (by kernel_rfl)) rfl ⟨rfl, B5⟩
end
end Go.Proofs.YtbplgbkbggmaeaaGreat

namespace Go.Proofs.YtbplgbkbggmaeaaGreat
open Go.RowKit
def gave7 : List PanicEntry := [{ v := .iface 29 (.int .i64 4), recovered := false }]
def endOf (n : Nat) : Ending := if n = 0 then .returned (.tuple #[]) else .panicked gave7
def RunA (w : World) (F : Foot) (s gd base n t : Nat) (ls : List Act7) (D : Dk) (e : Ending) (w' : World) : Prop :=
 ∃ F', e = endOf (acts ls D).2 ∧ IsSto w' F' s gd (acts ls D).1 base n t ∧ Step F F' w w'
theorem act_err {a : Act7} {D : Dk} (hf : a.fits D.safe.length) : a.err D = 0 ∨ a.err D = 4 := by
 by_cases hg : D.gone = false
 · by_cases hz : D.fuse = some 0
   · exact .inr (act_no hf (.inr hz)).1
   · exact .inl (act_yes hf hg hz).1
 · exact .inr (act_no hf (.inl (by simpa using hg))).1
theorem acts_one (a : Act7) (D : Dk) : acts [a] D = (a.on D, a.err D) := by
 rw [acts_cons]
 split
 · rename_i h; rw [h]; rfl
 · rfl
theorem act_len (a : Act7) {D : Dk} (hf : a.fits D.safe.length) : (a.on D).safe.length = D.safe.length ∧ (a.on D).waits.length ≤ D.waits.length + 1 := by
 by_cases hg : D.gone = false
 · by_cases hz : D.fuse = some 0
   · rw [(act_no hf (.inr hz)).2]; exact ⟨rfl, Nat.le_succ _⟩
   · rw [(act_yes hf hg hz).2]
     refine ⟨eff_len a (D.safe, D.waits), ?_⟩
     cases a <;> simp [Act7.eff]
 · rw [(act_no hf (.inl (by simpa using hg))).2]; exact ⟨rfl, Nat.le_succ _⟩
theorem acts_len : ∀ (l : List Act7) (D : Dk), (∀ a ∈ l, a.fits D.safe.length) → (acts l D).1.safe.length = D.safe.length ∧ (acts l D).1.waits.length ≤ D.waits.length + l.length
 | [], D, _ => ⟨rfl, Nat.le_refl _⟩
 | a :: l, D, hf => by
   obtain ⟨h1, h2⟩ := act_len a (hf a (by simp))
   rw [acts_cons]
   split
   · obtain ⟨h3, h4⟩ := acts_len l (a.on D) fun b hb => by rw [h1]; exact hf b (by simp [hb])
     exact ⟨h3.trans h1, by simp; omega⟩
   · exact ⟨h1, by simp; omega⟩
theorem acts_err : ∀ (l : List Act7) (D : Dk), (∀ a ∈ l, a.fits D.safe.length) → (acts l D).2 = 0 ∨ (acts l D).2 = 4
 | [], D, _ => .inl rfl
 | a :: l, D, hf => by
   have h0 := act_err (hf a (by simp))
   rw [acts_cons]
   split
   · exact acts_err l (a.on D) fun b hb => by rw [(act_len a (hf a (by simp))).1]; exact hf b (by simp [hb])
   · rename_i h; exact .inr (h0.resolve_left h)
theorem soNeed_yes (w : World) : Calls Tryz.prog 154 #[.int .i64 0] w fun e w' => e = .returned (.tuple #[]) ∧ w = w' := by
 go_enter Tryz.func154, Tryz.ntmps154
 go_wp2
 go_end0
 exact ⟨rfl, rfl⟩
theorem soNeed_no (w : World) : Calls Tryz.prog 154 #[.int .i64 4] w fun e w' => e = .panicked gave7 ∧ w = w' := by
 go_enter Tryz.func154, Tryz.ntmps154
 go_wp2
 exact ⟨rfl, rfl, rfl⟩
section
variable {w : World} {F : Foot} {s gd base n t : Nat} {D : Dk}
set_option maxRecDepth 100000 in
set_option maxHeartbeats 4000000 in
theorem soSync_any (h : IsSto w F s gd D base n t) : Calls Tryz.prog 129 #[.pointer (some ⟨s, 0, none⟩)] w (RunA w F s gd base n t [.sync] D) := by
 unfold RunA
 rw [acts_one]
 have he := act_err (a := .sync) (D := D) trivial
 have HS := Lib.hid (sync_any h.disk)
 have H := Lib.hid h
 obtain ⟨c0, _⟩ := h.cells
 clear h
 have e0 : Act7.err .sync D = D.syncE := rfl
 have e1 : Act7.on .sync D = D.sync := rfl
 rw [e0] at he
 simp only [e0, e1]
 rcases he with he | he
 all_goals
   rw [he] at HS
   rw [he]
   clear he
   go_enter Tryz.func129, Tryz.ntmps129
   go_wp2_with fail
   refine HS.out.mono ?_
   rintro e w1 ⟨rfl, hd, hs⟩
   have FIN := Lib.hid (H.out.onDisk hd hs)
   have ST := Lib.hid hs
   clear hd hs
   go_wp2_with fail
   first | refine (soNeed_yes _).mono ?_ | refine (soNeed_no _).mono ?_
   rintro e w2 ⟨rfl, rfl⟩
   go_wp2
   first
   | (go_end0; exact ⟨F, rfl, FIN.out, ST.out⟩)
   | exact ⟨rfl, F, rfl, FIN.out, ST.out⟩
end
end Go.Proofs.YtbplgbkbggmaeaaGreat

namespace Go.Proofs.YtbplgbkbggmaeaaGreat
open Go.RowKit
section
variable {w : World} {F : Foot} {s gd base n t : Nat} {D : Dk}
set_option maxRecDepth 100000 in
set_option maxHeartbeats 4000000 in
theorem soPut_any (h : IsSto w F s gd D base n t) {k E : Nat} {b : ByteArray} (hk : k < 3 + 2 * n) (hb : Body n k b) (he : E < 4294967296) (hr : base + (3 + 2 * n) ≤ D.safe.length) (hw : D.waits.length < 16777216) :
   Calls Tryz.prog 128 #[.pointer (some ⟨s, 0, none⟩), .int .i64 k, .int .u32 E, .string b] w (RunA w F s gd base n t [(SA.w k (E, b)).act base] D) := by
 have h8 := h.n8
 have hfit : ((SA.w k (E, b)).act base).fits D.safe.length := ⟨by omega, secOf_size hb⟩
 unfold RunA
 rw [acts_one]
 have her := act_err hfit
 have e0 : Act7.err ((SA.w k (E, b)).act base) D = D.writeE ((base : Int) + k) (secOf k (E, b)) := rfl
 have e1 : Act7.on ((SA.w k (E, b)).act base) D = D.write ((base : Int) + k) (secOf k (E, b)) := rfl
 rw [e0] at her
 simp only [e0, e1]
 have PK := Lib.hid (fun W => packSec hb (show k < 19 by omega) he W)
 have IX := Lib.hid (fun W => soIndex_any k (by omega) W)
 have WR : Hid (∀ W, Below w.heap.size w W → _) := fun W hW => write_any (h.disk.below hW) ((base : Int) + k) (secOf k (E, b)) hw
 have H := Lib.hid h
 have C : Hid (∀ W, Below w.heap.size w W → W.cell? ⟨s, 0, none⟩ = some (.pointer (some ⟨gd, 0, none⟩)) ∧ W.cell? ⟨s, 1, none⟩ = some (.int .i64 base)) := fun W hW => ⟨(h.below hW).cells.1, (h.below hW).cells.2.1⟩
 have b1 : (base : Int) ≤ 512 := by have := h.b5; omega
 have b2 : (k : Int) ≤ 19 := by omega
 clear h hk hb he hr hw hfit e0 e1
 generalize secOf k (E, b) = x at *
 generalize idxOf k = ix at *
 generalize D.writeE ((base : Int) + k) x = er at *
 generalize D.write ((base : Int) + k) x = D1 at *
 go_enter Tryz.func128, Tryz.ntmps128
 go_wp2_with fail
 refine (IX.out _).mono ?_
 rintro e w1 ⟨rfl, rfl⟩
 go_wp2_with fail
 refine (PK.out _).mono ?_
 rintro e w1 ⟨rfl, hb1⟩
 go_wp2_with fail
 refine (soNeed_yes _).mono ?_
 rintro e w2 ⟨rfl, rfl⟩
 go_upto_region 2 with fail
 have HB1 := Lib.hid hb1
 clear hb1
 refine' wp_region_conf 11 (.is _ :: .is _ :: .is _ :: .is _ :: .is _ :: .is _ :: .is _ :: .is _ :: .is _ :: .is _ :: .is _ :: []) (by kernel_rfl) (by kernel_rfl) (by kernel_rfl) (by kernel_rfl) rfl ?main
 case main =>
   iterate 11
     refine obs_is (fun w4 hE4 _ => ?_) ?_
     · have hb4 := below2 HB1.out ((Below.refl _ _).drew.trans hE4)
       obtain ⟨d0, d1⟩ := C.out w4 hb4
       go_wp2
       exact post_is (Below.refl _ _)
     simp only [Act.put, sA, sB, sC]
   refine obs_end fun w3 hE3 _ => ?_
   have HB3 := Lib.hid (below2 HB1.out ((Below.refl _ _).drew.trans hE3))
   clear hE3
   change wpList _ _ _ _ _ _
   rcases her with rfl | rfl
   all_goals
     go_wp2_with fail
     refine (WR.out _ HB3.out).mono ?_
     rintro e w7 ⟨rfl, F', hd, hs⟩
     have FIN := Lib.hid ((H.out.below HB3.out).onDisk hd hs)
     have ST := Lib.hid ((Step.ofBelow (F := F) HB3.out).trans hs)
     clear hd hs
     go_wp2_with fail
     first | refine (soNeed_yes _).mono ?_ | refine (soNeed_no _).mono ?_
     rintro e w8 ⟨rfl, rfl⟩
     go_wp2
     first
     | (go_end0; exact ⟨F', rfl, FIN.out, ST.out⟩)
     | exact ⟨rfl, F', rfl, FIN.out, ST.out⟩
theorem endOf_zero : endOf 0 = .returned (.tuple #[]) := rfl
theorem endOf_four : endOf 4 = .panicked gave7 := rfl
set_option maxRecDepth 100000 in
set_option maxHeartbeats 4000000 in
theorem soPair_put (h : IsSto w F s gd D base n t) {k E : Nat} {a b : ByteArray} (hk : k + 1 < 3 + 2 * n) (ha : Body n k a) (hb : Body n (k + 1) b) (he : E < 4294967296) (hr : base + (3 + 2 * n) ≤ D.safe.length) (hw : D.waits.length + 2 < 16777216) :
   Calls Tryz.prog 127 #[.pointer (some ⟨s, 0, none⟩), .int .i64 k, .int .u32 E, .agg #[.string a, .string b]] w (RunA w F s gd base n t (([.w k (E, a), .w (k + 1) (E, b), .sync] : List SA).map (SA.act base)) D) := by
 have h8 := h.n8
 have fa : ((SA.w k (E, a)).act base).fits D.safe.length := ⟨by omega, secOf_size ha⟩
 have fb : ((SA.w (k + 1) (E, b)).act base).fits D.safe.length := ⟨by omega, secOf_size hb⟩
 have ea := act_err fa
 obtain ⟨l1, l2⟩ := act_len _ fa
 have P1 : Hid (∀ W, Below w.heap.size w W → _) := fun W hW => soPut_any (h.below hW) (k := k) (E := E) (b := a) (by omega) ha he hr (by omega)
 have H := Lib.hid h
 have HK := Lib.hid hk
 have HKI : Hid ((k : Int) ≤ 19) := show (k : Int) ≤ 19 by omega
 have b2 : (k : Int) ≤ 19 := by omega
 have fb1 : ((SA.w (k + 1) (E, b)).act base).fits (((SA.w k (E, a)).act base).on D).safe.length := by rw [l1]; exact fb
 have eb := act_err fb1
 obtain ⟨m1, m2⟩ := act_len _ fb1
 have es := act_err (a := .sync) (D := ((SA.w (k + 1) (E, b)).act base).on (((SA.w k (E, a)).act base).on D)) trivial
 have P2 : Hid (∀ W F', IsSto W F' s gd (((SA.w k (E, a)).act base).on D) base n t → _) := fun W F' hI => soPut_any hI (k := k + 1) (E := E) (b := b) hk hb he (by rw [l1]; exact hr) (by omega)
 have hk1 : ((k + 1 : Nat) : Int) = (k : Int) + 1 := by omega
 rw [hk1] at P2
 clear h hk ha hb he hr hw fa fb fb1 l1 l2 m1 m2 hk1 h8
 unfold RunA at P1 P2 ⊢
 simp only [List.map_cons, List.map_nil, acts_cons]
 simp only [acts_one] at P1 P2
 have hsync : SA.act base SA.sync = Act7.sync := rfl
 rw [hsync]
 generalize (SA.w k (E, a)).act base = x at *
 generalize (SA.w (k + 1) (E, b)).act base = y at *
 generalize x.err D = r1 at *
 generalize x.on D = D1 at *
 generalize y.err D1 = r2 at *
 generalize y.on D1 = D2 at *
 have SY : Hid (∀ W F', IsSto W F' s gd D2 base n t → _) := fun W F' hI => soSync_any hI
 unfold RunA at SY
 simp only [acts_one] at SY
 generalize Act7.err .sync D2 = r3 at *
 generalize Act7.on .sync D2 = D3 at *
 go_enter Tryz.func127, Tryz.ntmps127
 go_wp2_with fail
 have B0 := (Below.refl w.heap.size w).alloc (Nat.le_refl _) (.cells #[.string a, .string b] 129)
 have x0 : ∀ W, (Instr.index 129 (.agg #[.string a, .string b]) (.int .i64 0)).run Tryz.prog W = .ok (.string a) W := fun W => by kernel_rfl
 have x1 : ∀ W, (Instr.index 129 (.agg #[.string a, .string b]) (.int .i64 1)).run Tryz.prog W = .ok (.string b) W := fun W => by kernel_rfl
 refine wp_loop_rounds 3 ?_
 rw [rounds_succ]
 go_wp2_with fail
 refine (P1.out _ B0).mono ?_
 rintro e w1 ⟨F1, rfl, hi1, hs1⟩
 have I1 := Lib.hid hi1
 have S1 := Lib.hid ((Step.ofBelow (F := F) B0).trans hs1)
 clear hi1 hs1 B0
 rcases ea with rfl | rfl
 · rw [endOf_zero]
   go_wp2_with fail
   rw [rounds_succ]
   go_wp2_with fail
   refine (P2.out _ _ I1.out).mono ?_
   rintro e w2 ⟨F2, rfl, hi2, hs2⟩
   have I2 := Lib.hid hi2
   have S2 := Lib.hid (S1.out.trans hs2)
   clear hi2 hs2
   rcases eb with rfl | rfl
   · rw [endOf_zero]
     go_wp2_with fail
     rw [rounds_succ]
     go_wp2_with fail
     refine (SY.out _ _ I2.out).mono ?_
     rintro e w3 ⟨F3, rfl, hi3, hs3⟩
     have I3 := Lib.hid hi3
     have S3 := Lib.hid (S2.out.trans hs3)
     clear hi3 hs3
     rcases es with rfl | rfl
     · rw [endOf_zero]
       go_wp2
       go_end0
       exact ⟨rfl, F3, I3.out, S3.out⟩
     · rw [endOf_four]
       go_wp2
       exact ⟨rfl, rfl, F3, I3.out, S3.out⟩
   · rw [endOf_four]
     go_wp2
     exact ⟨rfl, rfl, F2, I2.out, S2.out⟩
 · rw [endOf_four]
   go_wp2
   exact ⟨rfl, rfl, F1, I1.out, S1.out⟩
end
end Go.Proofs.YtbplgbkbggmaeaaGreat

namespace Go.Proofs.YtbplgbkbggmaeaaGreat
open Go.RowKit
set_option maxRecDepth 100000 in
theorem soCatch_panicking (p : Addr) (x : Int) (u : TypeId) (older : List PanicEntry) (w : World) (hu0 : u = 29) (hc : w.cell? p = some (.int .i64 0)) (hz : w.frozen? p = false) :
   CallsD Tryz.prog 153 #[.pointer (some p)] (.panicking ({ v := .iface u (.int .i64 x), recovered := false } :: older)) w fun e u' w' =>
     e = .returned (.tuple #[]) ∧ u' = .panicking ({ v := .iface u (.int .i64 x), recovered := true } :: older) ∧ w' = w.setCell p (.int .i64 x) := by
 subst hu0
 refine callsD_of_wpS Tryz.func153 rfl fun c₀ cs hu => ?_
 apply wpS_seq
 apply wpS_region
 simp [wpOpsS, go_sem, recoverD, hu, Tryz.ntmps153, Exit.thenS]
 apply wpS_seq
 apply wpS_region
 simp [wpOpsS, go_sem, Exit.thenS]
 have hta : ∀ W, (Instr.typeAssert (.iface 29 (.int .i64 x)) 20 29 false).run Tryz.prog W = .ok (.int .i64 x) W := fun W => by kernel_rfl
 refine wpS_cond (t := true) (by simp [Act.eval, Array.replicate]) ?_
 simp only [if_true]
 apply wpS_region
 simp [wpOpsS, go_sem, hc, hz, hta, bodyPostS, results, Tryz.results153]
theorem soCatch_idle (p : Addr) (w : World) :
   CallsD Tryz.prog 153 #[.pointer (some p)] .returning w fun e u' w' => e = .returned (.tuple #[]) ∧ u' = .returning ∧ w' = w := by
 refine callsD_of_wpS Tryz.func153 rfl fun c₀ cs hu => ?_
 apply wpS_seq
 apply wpS_region
 simp [wpOpsS, go_sem, recoverD, hu, Tryz.ntmps153, Exit.thenS]
 apply wpS_seq
 apply wpS_region
 simp [wpOpsS, go_sem, Exit.thenS]
 refine wpS_cond (t := false) (by simp [Act.eval, Array.replicate]) ?_
 simp only [Bool.false_eq_true, if_false]
 refine wpS_of_wp (wp_skip ?_)
 cases c₀
 simp_all [bodyPostS, results, Tryz.results153]
theorem results_cell {P : Program} {fn : Func} {q : Tmp} {tz : TypeId} (h : fn.results = #[.cell q tz]) (tmps : Array Value) (w : World) (g2 : Nat) (v : Value)
   (hq : tmps.getD q undef = .pointer (some ⟨g2, 0, none⟩)) (hz : P.underlying tz = some (.int .i64)) (hv : w.cell? ⟨g2, 0, none⟩ = some v) :
   (results fn tmps).run P w = .ok v w := by
 have hq' : tmps[q]?.getD undef = .pointer (some ⟨g2, 0, none⟩) := by simpa using hq
 have h1 : (loadVar tz ⟨g2, 0, none⟩).run P w = .ok v w := by
   simp [loadVar, isAgg, run_underlying hz, go_sem, hv]
 simp [results, h, hq', asAddr, h1]
def TryA (w : World) (F : Foot) (s gd base n t : Nat) (ls : List Act7) (D : Dk) (e : Ending) (w' : World) : Prop :=
 ∃ F', e = .returned (.int .i64 (acts ls D).2) ∧ IsSto w' F' s gd (acts ls D).1 base n t ∧ Step F F' w w'
section
variable {w : World} {F : Foot} {s gd base n t : Nat} {D : Dk} {ls : List Act7}
set_option maxRecDepth 100000 in
set_option maxHeartbeats 4000000 in
theorem soAttempt_any (h : IsSto w F s gd D base n t) (hf : ∀ a ∈ ls, a.fits D.safe.length) (g : FuncId) (first cap : Array Value) (hcf : ∀ W, (callFunc g (first ++ cap)).run Tryz.prog W = .ok (.enter g (first ++ cap)) W)
   (hdo : ∀ W, Below w.heap.size w W → Calls Tryz.prog g (first ++ cap) W (RunA W F s gd base n t ls D)) :
   Calls Tryz.prog 125 #[.func (.func g) first cap] w (TryA w F s gd base n t ls D) := by
 have HD := Lib.hid hdo
 have H := Lib.hid h
 have he := acts_err ls D hf
 have hmf : ∀ (fn : Fn) (first cap : Array Value) (w : World), (Instr.makeFunc fn first cap).run Tryz.prog w = .ok (.func fn first cap) w := fun _ _ _ _ => rfl
 have B0 := (Below.refl w.heap.size w).alloc (Nat.le_refl _) (.cells #[.int .i64 0] 29)
 have R0 := Blk.new w 29 #[.int .i64 0]
 unfold RunA at HD
 unfold TryA
 clear hdo h hf
 generalize (acts ls D).1 = D1 at *
 generalize (acts ls D).2 = er at *
 go_enter_defers Tryz.func125, Tryz.ntmps125
 go_wp2_with fail
 refine (HD.out _ B0).mono ?_
 rintro e w1 ⟨F', rfl, hi, hs⟩
 have R1 : Blk w1 w.heap.size 29 #[.int .i64 0] := (hs.block w.heap.size R0.lt (fun hF => by have := H.out.disk.lt _ hF; omega)).trans R0
 have S1 := (Step.ofBelow (F := F) B0).trans hs
 have hnF : ¬ F' w.heap.size := fun hF => by
   rcases hs.foot _ hF with h1 | h1
   · have := H.out.disk.lt _ h1; omega
   · have := R0.lt; omega
 have hns : w.heap.size ≠ s := by have := H.out.head.lt; omega
 clear R0 B0 HD
 have FIN : Hid (∀ v, IsSto (w1.setCell ⟨w.heap.size, 0, none⟩ v) F' s gd D1 base n t ∧ Step F F' w (w1.setCell ⟨w.heap.size, 0, none⟩ v)) := fun v =>
   ⟨⟨hi.disk.keep (fun b hb => heap_setCell_other w1 _ b v (fun e : b = w.heap.size => hnF (e ▸ hb))) (by simp [World.setCell]), hi.head.far (fun e => hns e.symm) v, hi.apart, hi.b5, hi.n8⟩,
    ⟨S1.os, S1.tape, S1.output, by simpa [World.setCell] using S1.size, fun b hb hF => (heap_setCell_other w1 _ b v (fun e => by have : b = w.heap.size := e; omega)).trans (S1.block b hb hF), S1.foot⟩⟩
 have c1 := R1.cell 0
 have z1 := R1.frozen 0
 simp at c1
 clear hi hs S1 H
 rcases he with rfl | rfl
 · rw [endOf_zero]
   go_wp2_with fail
   refine leaves_cons (f := 153) (args := #[.pointer (some ⟨w.heap.size, 0, none⟩)]) (by simp) (by simp [go_sem]) ?_
   refine (soCatch_idle ⟨w.heap.size, 0, none⟩ _).mono ?_
   rintro e u' w'' ⟨rfl, rfl, rfl⟩
   exact ⟨_, results_cell rfl _ _ w.heap.size (.int .i64 0) rfl Tryz.underlying29 ((R1.set 0 _).cell 0), F', rfl, (FIN.out _).1, (FIN.out _).2⟩
 · rw [endOf_four]
   go_wp2_with fail
   refine leaves_cons (f := 153) (args := #[.pointer (some ⟨w.heap.size, 0, none⟩)]) (by simp) (by simp [go_sem]) ?_
   refine (soCatch_panicking ⟨w.heap.size, 0, none⟩ 4 _ [] _ rfl c1 z1).mono ?_
   rintro e u' w'' ⟨rfl, rfl, rfl⟩
   exact ⟨_, results_cell rfl _ _ w.heap.size (.int .i64 4) rfl Tryz.underlying29 ((R1.set 0 _).cell 0), F', rfl, (FIN.out _).1, (FIN.out _).2⟩
end
end Go.Proofs.YtbplgbkbggmaeaaGreat
