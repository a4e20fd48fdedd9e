/- Texts that belong together, joined: RpX. -/
import Derived.Test.YtbplgbkbggmaeaaGreatKrpu
namespace Go.Proofs.YtbplgbkbggmaeaaGreat
open Go.RowKit
set_option maxRecDepth 100000 in
set_option maxHeartbeats 16000000 in
theorem plays_bad (p f g : Int) (hz : ¬ Sizes8 p f g) (v : Value) (w : World) :
   Calls Tryz.prog 3 #[.agg #[.int .i64 p, .int .i64 f, .int .i64 g], v] w fun e w' => e = .returned (.bool true) ∧ Below w.heap.size w w' := by
 have X0 := Blk.new w 23 #[.int .i64 p, .int .i64 f, .int .i64 g]
 have hb0 := (Below.refl w.heap.size w).alloc (Nat.le_refl _) (.cells #[.int .i64 p, .int .i64 f, .int .i64 g] 23)
 have MK := Lib.hid (fun W => made_bad (w := W) p f g hz)
 have HZ : Hid (p < 1 ∨ 8 < p ∨ g < 8 ∨ 64 < g ∨ f < 1 ∨ 8 < f) := by
   unfold Sizes8 at hz
   unfold Hid
   omega
 clear hz
 go_enter Tryz.func3, Tryz.ntmps3
 go_upto_region 1 with fail
 change Code.wp _ _ _ _ (w.alloc (.cells #[.int .i64 p, .int .i64 f, .int .i64 g] 23))
 have HB0 := Lib.hid hb0
 have HX0 := Lib.hid X0
 have LX := Lib.hid X0.lt
 clear hb0 X0
 generalize w.alloc (.cells #[.int .i64 p, .int .i64 f, .int .i64 g] 23) = w1 at *
 go_wp2_with (refine wpList_load_row rfl 23 _ rfl w.heap.size rfl 23 _ (0, 0) _ HX0.out Tryz.underlying23 rfl (by kernel_rfl) ?_)
 refine (MK.out _).mono ?_
 rintro e w2 ⟨v0, v1, v2, rfl, hb2⟩
 have X2 := Lib.hid (HX0.out.keep hb2 HX0.out.lt)
 have HB2 := Lib.hid (below2 HB0.out hb2)
 clear hb2 HB0 HX0 MK
 go_wp2_with fail
 refine (refNew_any 100 _ (by omega)).mono ?_
 rintro e w3 ⟨gd, FD, rfl, hrd, hFD, hb3⟩
 have X3 := Lib.hid (X2.out.keep hb3 X2.out.lt)
 have HB3 := Lib.hid (below2 HB2.out hb3)
 have z30 : w3.cell? ⟨w.heap.size, 0, none⟩ = some (.int .i64 p) := X3.out.cell 0
 have NS : Hid (∃ (q : Option Addr) (f0 : Int), (f0 = 0 ∨ f0 = 1) ∧ Calls Tryz.prog 6 #[.pointer (some ⟨gd, 0, none⟩), .int .i64 0, .int .i64 p] w3 fun e w' => e = .returned (.tuple #[.pointer q, .int .i64 f0]) ∧ Below w3.heap.size w3 w') := by
   by_cases hp : 1 ≤ p ∧ p ≤ 8
   · obtain ⟨P, rfl⟩ := Int.eq_ofNat_of_zero_le (show 0 ≤ p by omega)
     refine ⟨some ⟨w3.heap.size, 0, none⟩, 0, .inl rfl, (rpNew_ok hrd (Dk.Ok.new (by omega) (by omega)) P (by omega) (by omega) (by simp [Dk.new]; omega)).mono ?_⟩
     rintro e w' ⟨rfl, _, hb⟩
     exact ⟨rfl, hb⟩
   · refine ⟨none, 1, .inr rfl, (rpNew_bad gd p (by omega)).mono ?_⟩
     rintro e w' ⟨rfl, rfl⟩
     exact ⟨rfl, Below.refl _ _⟩
 obtain ⟨q, f0, hf0, hns⟩ := NS.out
 have HNS := Lib.hid hns
 have HF0 := Lib.hid hf0
 clear hrd hFD hb3 X2 HB2 NS hns hf0
 go_wp2_with fail
 refine HNS.out.mono ?_
 rintro e w4 ⟨rfl, hb4⟩
 have X4 := Lib.hid (X3.out.keep hb4 X3.out.lt)
 have HB4 := Lib.hid (below2 HB3.out hb4)
 clear hb4 X3 HB3 HNS z30
 go_wp2_with fail
 refine (awake8 _).mono ?_
 rintro e w5 ⟨rfl, hb5⟩
 have X5 := Lib.hid (X4.out.keep hb5 X4.out.lt)
 have HB5 := Lib.hid (below2 HB4.out hb5)
 have z0 : w5.cell? ⟨w.heap.size, 0, none⟩ = some (.int .i64 p) := X5.out.cell 0
 have z1 : w5.cell? ⟨w.heap.size, 1, none⟩ = some (.int .i64 f) := X5.out.cell 1
 have z2 : w5.cell? ⟨w.heap.size, 2, none⟩ = some (.int .i64 g) := X5.out.cell 2
 clear hb5 X4 HB4
 rcases HF0.out with rfl | rfl
 all_goals
   by_cases h1 : p < 1
   · clear HZ
     go_wp2
     go_ret
     exact ⟨rfl, HB5.out⟩
   by_cases h2 : 8 < p
   · clear HZ
     go_wp2
     go_ret
     exact ⟨rfl, HB5.out⟩
   by_cases h3 : g < 8
   · clear HZ
     go_wp2
     go_ret
     exact ⟨rfl, HB5.out⟩
   by_cases h4 : 64 < g
   · clear HZ
     go_wp2
     go_ret
     exact ⟨rfl, HB5.out⟩
   by_cases h5 : f < 1
   · clear HZ
     go_wp2
     go_ret
     exact ⟨rfl, HB5.out⟩
   have h6 : 8 < f := by have := HZ.out; omega
   clear HZ
   go_wp2
   go_ret
   exact ⟨rfl, HB5.out⟩
set_option maxRecDepth 100000 in
set_option maxHeartbeats 16000000 in
theorem plays_long (p f g : Nat) (p1 : 1 ≤ p) (p8 : p ≤ 8) (f1 : 1 ≤ f) (f8 : f ≤ 8) (g8 : 8 ≤ g) (g64 : g ≤ 64) (v : Value) (ops : List Op8) (w : World) (hv : IsOps8 w v ops) (hl : isLong8 ops) :
   Calls Tryz.prog 3 #[.agg #[.int .i64 p, .int .i64 f, .int .i64 g], v] w fun e w' => e = .returned (.bool true) ∧ Below w.heap.size w w' := by
 have X0 := Blk.new w 23 #[.int .i64 p, .int .i64 f, .int .i64 g]
 have hb0 := (Below.refl w.heap.size w).alloc (Nat.le_refl _) (.cells #[.int .i64 p, .int .i64 f, .int .i64 g] 23)
 have MK := Lib.hid (fun W => made_ok (w := W) p f g p1 p8 f1 f8 g8 g64)
 have PB := Lib.hid (And.intro p1 p8)
 clear p1 p8 f1 f8 g8 g64
 go_enter Tryz.func3, Tryz.ntmps3
 go_upto_region 1 with fail
 change Code.wp _ _ _ _ (w.alloc (.cells #[.int .i64 p, .int .i64 f, .int .i64 g] 23))
 have HB0 := Lib.hid hb0
 have HX0 := Lib.hid X0
 have HV := Lib.hid hv
 clear hb0 X0 hv
 generalize w.alloc (.cells #[.int .i64 p, .int .i64 f, .int .i64 g] 23) = w1 at *
 go_wp2_with (refine wpList_load_row rfl 23 _ rfl w.heap.size rfl 23 _ (0, 0) _ HX0.out Tryz.underlying23 rfl (by kernel_rfl) ?_)
 refine (MK.out _).mono ?_
 rintro e w2 ⟨F, A, rfl, hlv, hn, hb⟩
 have X2 := Lib.hid (HX0.out.keep hlv.below HX0.out.lt)
 have HB2 := Lib.hid (below2 HB0.out hlv.below)
 clear hlv hn hb HB0 HX0 MK
 go_wp2_with fail
 refine (refNew_any 100 _ (by omega)).mono ?_
 rintro e w3 ⟨gd, FD, rfl, hrd, hFD, hb3⟩
 have X3 := Lib.hid (X2.out.keep hb3 X2.out.lt)
 have HB3 := Lib.hid (below2 HB2.out hb3)
 have z30 : w3.cell? ⟨w.heap.size, 0, none⟩ = some (.int .i64 p) := X3.out.cell 0
 have NS := Lib.hid (rpNew_ok hrd (Dk.Ok.new (by omega) (by omega)) p PB.out.1 PB.out.2 (by simp [Dk.new]; have := PB.out.2; omega))
 clear hrd hFD hb3 X2 HB2
 go_wp2_with fail
 refine NS.out.mono ?_
 rintro e w4 ⟨rfl, hs4, hb4⟩
 have X4 := Lib.hid (X3.out.keep hb4 X3.out.lt)
 have HB4 := Lib.hid (below2 HB3.out hb4)
 clear hs4 hb4 X3 HB3 NS z30
 go_wp2_with fail
 refine (awake8 _).mono ?_
 rintro e w5 ⟨rfl, hb5⟩
 have X5 := Lib.hid (X4.out.keep hb5 X4.out.lt)
 have HB5 := Lib.hid (below2 HB4.out hb5)
 have LG := Lib.hid (long8_any v ops w5 (HV.out.keep HB5.out) true (by simp [hl]))
 clear hb5 X4 HB4
 go_wp2_with fail
 refine LG.out.mono ?_
 rintro e w6 ⟨rfl, hb6⟩
 have HB6 := Lib.hid (below2 HB5.out hb6)
 clear hb6 X5 HB5 LG
 go_wp2
 go_ret
 exact ⟨rfl, HB6.out⟩
end Go.Proofs.YtbplgbkbggmaeaaGreat
