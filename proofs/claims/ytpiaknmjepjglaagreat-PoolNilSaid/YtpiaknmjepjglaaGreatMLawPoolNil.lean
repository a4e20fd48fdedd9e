/- careenlaw08.PoolNil: it returns true for every input, and leaves its arguments as they were: the row's proof, out of the walk.
   Conditions: none beside the row's own (each argument is read as data). -/
import Derived.Test.YtpiaknmjepjglaaGreatJpoE
import Derived.ProofKit
import Derived.OpenShut
import Derived.ShutString
import Derived.ChangeOld
import Derived.Below
import Derived.Lib.SmallJoins
/- careenlaw08.PoolNil: the walk. -/
namespace Go.Proofs.YtpiaknmjepjglaaGreat
open Go.RowKit

set_option maxRecDepth 100000 in
set_option maxHeartbeats 16000000 in
theorem walkPoolNil (i a : Int) (d : ByteArray) (w : World) (_ : (Lit.int .i64 i).wf = true) (_ : (Lit.int .i64 a).wf = true) (_ : d.size ≤ maxLen) :
    Calls Tryz.prog 5 #[.int .i64 i, .agg #[.int .i64 a, .string d]] w fun e w' => e = .returned (.bool true) ∧ Below w.heap.size w w' := by
  have x0 := Blk.new w 45 #[.int .i64 a, .string d]
  have HB0 := Lib.hid ((Below.refl w.heap.size w).alloc (Nat.le_refl _) (.cells #[.int .i64 a, .string d] 45))
  have G := Lib.hid (fun W => poGet_nil i W)
  have PK := Lib.hid (fun W => poPeek_nil i W)
  unfold pgOut noPg at G PK
  go_enter Tryz.func5, Tryz.ntmps5
  go_upto_region 1 with fail
  change Code.wp _ _ _ _ (w.alloc (.cells #[.int .i64 a, .string d] 45))
  generalize w.alloc (.cells #[.int .i64 a, .string d] 45) = w1 at *
  go_wp2_with fail
  refine (G.out _).mono ?_
  rintro e w2 ⟨rfl, hb2⟩
  have B3 := hb2.alloc hb2.size (.cells #[.int .i64 0, .string ⟨#[]⟩] 45)
  have x3 := x0.keep B3 x0.lt
  have HB3 := Lib.hid (below2 HB0.out B3)
  clear B3 hb2 x0 G HB0
  go_upto_region 3 with fail
  change Code.wp _ _ _ _ (w2.alloc (.cells #[.int .i64 0, .string ⟨#[]⟩] 45))
  generalize w2.alloc (.cells #[.int .i64 0, .string ⟨#[]⟩] 45) = w3 at *
  go_wp2_with fail
  refine (poNew_nil _).mono ?_
  rintro e w4 ⟨rfl, rfl⟩
  go_wp2_with fail
  refine (PK.out _).mono ?_
  rintro e w4 ⟨rfl, hb4⟩
  have B5 := hb4.alloc hb4.size (.cells #[.int .i64 0, .string ⟨#[]⟩] 45)
  have x5 := x3.keep B5 x3.lt
  have HB5 := Lib.hid (below2 HB3.out B5)
  clear B5 hb4 x3 PK HB3
  go_upto_region 5 with fail
  change Code.wp _ _ _ _ (w4.alloc (.cells #[.int .i64 0, .string ⟨#[]⟩] 45))
  generalize w4.alloc (.cells #[.int .i64 0, .string ⟨#[]⟩] 45) = w5 at *
  go_wp2_with fail
  refine (awake8 _).mono ?_
  rintro e w6 ⟨rfl, hb6⟩
  have x6 := x5.keep hb6 x5.lt
  have HB6 := Lib.hid (below2 HB5.out hb6)
  have c0 := x6.cell 0
  have c1 := x6.cell 1
  simp at c0 c1
  clear hb6 x5 HB5
  go_wp2_with fail
  refine (poPut_nil _ _ _ _).mono ?_
  rintro e w7 ⟨rfl, hb7⟩
  have HB7 := Lib.hid (below2 HB6.out hb7)
  clear hb7 x6 HB6 c0 c1
  go_wp2_with fail
  refine (poEvict_nil _ _).mono ?_
  rintro e w8 ⟨rfl, rfl⟩
  go_wp2_with fail
  refine (poDirty_nil _).mono ?_
  rintro e w8 ⟨rfl, rfl⟩
  go_wp2_with fail
  refine (poHolds_nil _ _).mono ?_
  rintro e w8 ⟨rfl, rfl⟩
  go_wp2_with fail
  refine (poDrop_nil _ _).mono ?_
  rintro e w8 ⟨rfl, rfl⟩
  go_wp2_with fail
  refine (poFrames_nil _).mono ?_
  rintro e w8 ⟨rfl, rfl⟩
  go_wp2
  go_ret
  exact ⟨rfl, HB7.out⟩
end Go.Proofs.YtpiaknmjepjglaaGreat

/- careenlaw08.PoolNil: it returns true for every input, and leaves its arguments as they were: the row's proof, out of the walk.
   Conditions: none beside the row's own (each argument is read as data). -/
namespace Go.Proofs.YtpiaknmjepjglaaGreat.poolNil
open Go.ChangeShapes Go.WideShapes Go.ChangeAt Go.RowKit Go.Joins
open Go.ChangeMaps (open_string shut_string)
set_option linter.unusedVariables false

theorem own : ownKnob Tryz.prog.godebug = none := by kernel_rfl
theorem laidOut : laidOutB Tryz.prog = true := by kernel_rfl
theorem cellsPg : Tryz.prog.cellsOf 45 = 2 := by kernel_rfl

set_option maxRecDepth 100000 in
theorem lifted (os : Os) (started : os.Started) (H : Type) (enc : TypeId × Value → H) :
    ReturnsInHanded {} Tryz.checked os 5 .any (Rows.poolNilSpec.pre6 enc Tryz.prog Tryz.f5 Rows.poolNilRow.domain false) (Rows.poolNilSpec.post enc Tryz.prog Tryz.f5 false true false false) := by
  refine returnsInHanded_of_change (C := Tryz.checked) own started (by kernel_rfl) Tryz.func5
    (ChangeSpec.witness6 (enc := enc) (C := Tryz.checked) false ⟨#[], #[.int .i64 0, .agg #[.int .i64 0, .string ByteArray.empty]], []⟩ 8 (by kernel_rfl) (by kernel_rfl) (by kernel_rfl) (by kernel_rfl)) ?_
  intro W base args ds gs before hval0 hW hcnd _
  have hval : ∀ (j : Nat) t v, Tryz.f5.params[j]? = some t → args[j]? = some v → Value.okWide Tryz.prog W .any base t v := hval0
  have hW' := hW
  obtain ⟨p, q, hA0, hV, rfl, hfz, hnd⟩ := hW
  have hA : DataW.TrodAll enc Tryz.prog W 0 (fun _ => true) true Tryz.f5.params.toList args.toList ds p := hA0
  rw [Tryz.params5] at hA hval
  obtain ⟨v0, vs0, d0, ds0, p0, q0, hargs, rfl, rfl, h0, r0⟩ := trodAll_cons hA
  obtain ⟨v1, vs1, d1, ds1, p1, q1, rfl, rfl, rfl, h1, r1⟩ := trodAll_cons r0
  obtain ⟨rfl, rfl, rfl⟩ := trodAll_nil r1
  obtain rfl : args = #[v0, v1] := by cases args; simp_all
  obtain ⟨rfl, rfl⟩ := trodVars_none hV
  have k0 := h0
  have lt0 : ∀ x ∈ p0, x.block < W.heap.size := by obtain ⟨m, hm⟩ := k0; exact DataW.trod_lt m _ _ _ hm
  have k1 := h1
  have lt1 : ∀ x ∈ p1, x.block < W.heap.size := by obtain ⟨m, hm⟩ := k1; exact DataW.trod_lt m _ _ _ hm
  obtain ⟨a0, rfl, rfl, rfl, w0⟩ := open_int Tryz.underlying3 (hval 0 3 v0 rfl rfl) h0
  obtain ⟨c10, c11, y10, y11, m1, rfl, rfl, hp1, hy10, hy11⟩ := open_agg2 Tryz.underlying45 (by kernel_rfl) cellsPg (hval 1 45 v1 rfl rfl) h1
  obtain ⟨a10, e10, rfl, w10⟩ := DataW.trod_int Tryz.underlying3 hy10
  obtain ⟨a11, e11, rfl, w11⟩ := DataW.trod_string Tryz.underlying9 hy11
  simp only [List.cons.injEq, and_true] at e10 e11
  subst e10 e11
  clear hA0 hval0
  refine (walkPoolNil a0 a10 a11 W w0 w10 w11).mono fun e W' ⟨he, bel⟩ => ?_
  subst he
  exact ⟨_, rfl, _, _, _, [], _, [], hW', trodAll_mk1 (shut_bool Tryz.underlying4 _), (trodAll_cons_mk (Below.trod laidOut (by kernel_rfl) (of_decide_eq_true (by kernel_rfl)) k0 bel lt0) (trodAll_cons_mk (Below.trod laidOut (by kernel_rfl) (of_decide_eq_true (by kernel_rfl)) k1 bel lt1) trodAll_mk0)), rfl, bel.frame _, fun h => by cases h⟩

theorem over : Rows.poolNilRow.holds Tryz.pinned (OpenSpec.ofChange Rows.poolNilSpec) :=
  OpenClaim.holds_of_wide 5 Tryz.f5 rfl rfl rfl rfl rfl rfl rfl ⟨rfl, rfl, rfl, rfl, rfl⟩ rfl rfl rfl rfl rfl (by kernel_rfl) Tryz.func5 (by kernel_rfl)
    (of_decide_eq_true (by kernel_rfl)) (by unfold Func.isWrapper; first | (rw [if_pos (by decide +kernel)]; kernel_rfl) | (rw [if_neg (by decide +kernel)]; exact ⟨rfl, rfl⟩))
    (fun os started H enc _ => lifted os started H enc)

/-- The given statement. -/
theorem proved : Rows.PoolNilSaid := over
end Go.Proofs.YtpiaknmjepjglaaGreat.poolNil
