/- careenlaw05.WalNil: it returns true for every input, and leaves its arguments as they were: the row's proof, out of the walk.
   Conditions: none beside the row's own (each argument is read as data). -/
import Derived.Test.YtopihafmajadfaaJwalK
import Derived.Test.YtopihafmajadfaaOpenRec
import Derived.ProofKit
import Derived.OpenShut
import Derived.ShutString
import Derived.ChangeOld
import Derived.Below
import Derived.Lib.SmallJoins
/- Package wal: the calls of a log that is none. -/
namespace Go.Proofs.Ytopihafmajadfaa
open Go.RowKit

theorem lappend_nil {r : Rc} {v : Value} {w : World} (hv : IsRec w v r) : Calls Try.prog 24 #[.pointer none, v] w fun e w' => e = .returned (.tuple #[.int .i64 0, .int .i64 10]) ∧ Below w.heap.size w w' := by
  obtain ⟨vt, vp, rfl, _⟩ := hv
  unfold recV
  go_enter Try.func24, Try.ntmps24
  go_wp2
  go_ret2
  exact ⟨rfl, (Below.refl _ _).alloc (Nat.le_refl _) _⟩
set_option maxRecDepth 100000 in
set_option maxHeartbeats 4000000 in
theorem lread_nil (at_ : Int) (w : World) : Calls Try.prog 30 #[.pointer none, .int .i64 at_] w fun e w' => e = .returned (.tuple #[.agg (recCells .nil (.slice none 0 0) (.slice none 0 0)), .int .i64 10]) ∧ Below w.heap.size w w' := by
  have hbr := Blk.new w 26 (recCells .nil (.slice none 0 0) (.slice none 0 0))
  go_enter Try.func30, Try.ntmps30
  go_wp2_with (refine wpList_store_row rfl 26 _ _ rfl w.heap.size _ rfl rfl 26 _ hbr (by kernel_rfl) rfl (by simp [Value.oneCell']) ?_)
  refine bodyPost_ret (results_row_tmp rfl _ _ w.heap.size 26 (recCells .nil (.slice none 0 0) (.slice none 0 0)) _ rfl (hbr.setRow _) Try.underlying26 rfl (by kernel_rfl)) rfl ?_
  exact ⟨rfl, below_setRow ((Below.refl _ _).alloc (Nat.le_refl _) _) (Nat.le_refl _) _⟩
theorem lopen_nil (a b c : Int) (w : World) : Calls Try.prog 28 #[.pointer none, .int .i64 a, .int .i64 b, .int .i64 c] w fun e w' => e = .returned (.tuple #[.pointer none, .int .i64 10]) ∧ w = w' := by
  go_enter Try.func28, Try.ntmps28
  go_wp2_with fail
  refine (logNew_nil a b w).mono ?_
  rintro e w1 ⟨rfl, rfl⟩
  go_wp2
  go_ret2
  exact ⟨rfl, rfl⟩
theorem lflush_nil (w : World) : Calls Try.prog 25 #[.pointer none] w fun e w' => e = .returned (.int .i64 10) ∧ w = w' := by
  go_enter Try.func25, Try.ntmps25
  go_wp2
  go_ret
  exact ⟨rfl, rfl⟩
theorem lsafe_nil (at_ : Int) (w : World) : Calls Try.prog 31 #[.pointer none, .int .i64 at_] w fun e w' => e = .returned (.bool false) ∧ w = w' := by
  go_enter Try.func31, Try.ntmps31
  go_wp2
  go_ret
  exact ⟨rfl, rfl⟩
theorem lscan_nil (at_ : Int) (w : World) : Calls Try.prog 29 #[.pointer none, .int .i64 at_] w fun e w' => e = .returned (.slice none 0 0) ∧ w = w' := by
  go_enter Try.func29, Try.ntmps29
  go_wp2
  go_ret
  exact ⟨rfl, rfl⟩
theorem lcut_nil (at_ : Int) (w : World) : Calls Try.prog 32 #[.pointer none, .int .i64 at_] w fun e w' => e = .returned (.int .i64 10) ∧ w = w' := by
  go_enter Try.func32, Try.ntmps32
  go_wp2
  go_ret
  exact ⟨rfl, rfl⟩
theorem llow_nil (w : World) : Calls Try.prog 33 #[.pointer none] w fun e w' => e = .returned (.int .i64 0) ∧ w = w' := by
  go_enter Try.func33, Try.ntmps33
  go_wp2
  go_ret
  exact ⟨rfl, rfl⟩
theorem lnext_nil (w : World) : Calls Try.prog 34 #[.pointer none] w fun e w' => e = .returned (.int .i64 0) ∧ w = w' := by
  go_enter Try.func34, Try.ntmps34
  go_wp2
  go_ret
  exact ⟨rfl, rfl⟩
theorem lroom_nil (w : World) : Calls Try.prog 35 #[.pointer none] w fun e w' => e = .returned (.int .i64 0) ∧ w = w' := by
  go_enter Try.func35, Try.ntmps35
  go_wp2
  go_ret
  exact ⟨rfl, rfl⟩
theorem lepoch_nil (w : World) : Calls Try.prog 36 #[.pointer none] w fun e w' => e = .returned (.int .i64 0) ∧ w = w' := by
  go_enter Try.func36, Try.ntmps36
  go_wp2
  go_ret
  exact ⟨rfl, rfl⟩

set_option maxRecDepth 100000 in
set_option maxHeartbeats 16000000 in
theorem walkWalNil (v : Value) (r : Rc) (at_ : Int) (w : World) (hv : IsRec w v r) (_ : r.before.size ≤ maxLen ∧ r.after.size ≤ maxLen) (_ : (Lit.int .i64 at_).wf = true) :
    Calls Try.prog 7 #[v, .int .i64 at_] w fun e w' => e = .returned (.bool true) ∧ Below w.heap.size w w' := by
  obtain ⟨vt, vp, rfl, hl⟩ := hv
  have hb0 : Below w.heap.size w (w.alloc (.cells (recCells r vt vp) 26)) := (Below.refl _ _).alloc (Nat.le_refl _) _
  have B0 := Blk.new w 26 (recCells r vt vp)
  have APP : Hid (Calls Try.prog 24 #[.pointer none, .agg (recCells r vt vp)] _ _) := lappend_nil (r := r) ⟨vt, vp, rfl, hl.keep hb0⟩
  have HB := Lib.hid hb0
  clear hl hb0
  unfold recV
  go_enter Try.func7, Try.ntmps7
  go_wp2_with (refine wpList_load_row rfl 26 _ rfl w.heap.size rfl 26 _ (0, 0) _ B0 Try.underlying26 rfl (by kernel_rfl) ?_)
  refine APP.out.mono ?_
  rintro e w1 ⟨rfl, hb1⟩
  have HB1 := Lib.hid (below2 HB.out hb1)
  clear hb1 APP HB B0
  go_wp2_with fail
  refine (lread_nil at_ _).mono ?_
  rintro e w2 ⟨rfl, hb2⟩
  have HB2 := Lib.hid (below2 HB1.out hb2)
  clear hb2 HB1
  have hn := Blk.new w2 26 (recCells .nil (.slice none 0 0) (.slice none 0 0))
  have HB3 := Lib.hid (below2 HB2.out (below_setRow ((Below.refl w2.heap.size w2).alloc (Nat.le_refl _) (.cells (recCells .nil (.slice none 0 0) (.slice none 0 0)) 26)) (Nat.le_refl _) (recCells .nil (.slice none 0 0) (.slice none 0 0))))
  go_upto_region 4 with (refine wpList_store_row rfl 26 _ _ rfl w2.heap.size _ rfl rfl 26 _ hn (by kernel_rfl) rfl (by simp [recCells, Value.oneCell']) ?_)
  clear hn HB2
  change Code.wp _ _ _ _ ((w2.alloc (.cells (recCells .nil (.slice none 0 0) (.slice none 0 0)) 26)).setRow w2.heap.size (recCells .nil (.slice none 0 0) (.slice none 0 0)))
  generalize (w2.alloc (.cells (recCells .nil (.slice none 0 0) (.slice none 0 0)) 26)).setRow w2.heap.size (recCells .nil (.slice none 0 0) (.slice none 0 0)) = w3 at *
  go_wp2_with fail
  refine (logNew_nil 0 8 _).mono ?_
  rintro e w4 ⟨rfl, rfl⟩
  go_wp2_with fail
  refine (lopen_nil 0 8 1 _).mono ?_
  rintro e w5 ⟨rfl, rfl⟩
  go_wp2_with fail
  refine (awake5 _).mono ?_
  rintro e w6 ⟨rfl, hb6⟩
  have HB6 := Lib.hid (below2 HB3.out hb6)
  clear hb6 HB3
  go_wp2_with fail
  refine (lflush_nil _).mono ?_
  rintro e w7 ⟨rfl, rfl⟩
  go_wp2_with fail
  refine (lsafe_nil _ _).mono ?_
  rintro e w8 ⟨rfl, rfl⟩
  go_wp2_with fail
  refine (lscan_nil _ _).mono ?_
  rintro e w9 ⟨rfl, rfl⟩
  go_wp2_with fail
  refine (lcut_nil _ _).mono ?_
  rintro e w10 ⟨rfl, rfl⟩
  go_wp2_with fail
  refine (llow_nil _).mono ?_
  rintro e w11 ⟨rfl, rfl⟩
  go_wp2_with fail
  refine (lnext_nil _).mono ?_
  rintro e w12 ⟨rfl, rfl⟩
  go_wp2_with fail
  refine (lroom_nil _).mono ?_
  rintro e w13 ⟨rfl, rfl⟩
  go_wp2_with fail
  refine (lepoch_nil _).mono ?_
  rintro e w14 ⟨rfl, rfl⟩
  go_wp2
  go_ret
  exact ⟨rfl, HB6.out⟩
end Go.Proofs.Ytopihafmajadfaa

/- careenlaw05.WalNil: it returns true for every input, and leaves its arguments as they were: the row's proof, out of the walk.
   Conditions: none beside the row's own (each argument is read as data). -/
namespace Go.Proofs.Ytopihafmajadfaa.walNil
open Go.ChangeShapes Go.WideShapes Go.ChangeAt Go.RowKit Go.Joins
open Go.ChangeMaps (open_string shut_string)
set_option linter.unusedVariables false

theorem own : ownKnob Try.prog.godebug = none := by kernel_rfl
theorem laidOut : laidOutB Try.prog = true := by kernel_rfl

set_option maxRecDepth 100000 in
theorem lifted (os : Os) (started : os.Started) (H : Type) (enc : TypeId × Value → H) :
    ReturnsInHanded {} Try.checked os 7 .any (Rows.walNilSpec.pre6 enc Try.prog Try.f7 Rows.walNilRow.domain false) (Rows.walNilSpec.post enc Try.prog Try.f7 false true false false) := by
  refine returnsInHanded_of_change (C := Try.checked) own started (by kernel_rfl) Try.func7
    (ChangeSpec.witness6 (enc := enc) (C := Try.checked) false ⟨#[], #[.agg #[.int .i64 0, .int .i64 0, .int .i64 0, .int .i64 0, .int .i64 0, .int .i64 0, .int .i64 0, .string ByteArray.empty, .string ByteArray.empty, .slice none 0 0, .slice none 0 0], .int .i64 0], []⟩ 8 (by kernel_rfl) (by kernel_rfl) (by kernel_rfl) (by kernel_rfl)) ?_
  intro W base args ds gs before hval0 hW hcnd _
  have hval : ∀ (j : Nat) t v, Try.f7.params[j]? = some t → args[j]? = some v → Value.okWide Try.prog W .any base t v := hval0
  have hW' := hW
  obtain ⟨p, q, hA0, hV, rfl, hfz, hnd⟩ := hW
  have hA : DataW.TrodAll enc Try.prog W 0 (fun _ => true) true Try.f7.params.toList args.toList ds p := hA0
  rw [Try.params7] at hA hval
  obtain ⟨v0, vs0, d0, ds0, p0, q0, hargs, rfl, rfl, h0, r0⟩ := trodAll_cons hA
  obtain ⟨v1, vs1, d1, ds1, p1, q1, rfl, rfl, rfl, h1, r1⟩ := trodAll_cons r0
  obtain ⟨rfl, rfl, rfl⟩ := trodAll_nil r1
  obtain rfl : args = #[v0, v1] := by cases args; simp_all
  obtain ⟨rfl, rfl⟩ := trodVars_none hV
  have k0 := h0
  have lt0 : ∀ x ∈ p0, x.block < W.heap.size := by obtain ⟨m, hm⟩ := k0; exact DataW.trod_lt m _ _ _ hm
  have k1 := h1
  have lt1 : ∀ x ∈ p1, x.block < W.heap.size := by obtain ⟨m, hm⟩ := k1; exact DataW.trod_lt m _ _ _ hm
  obtain ⟨a0, w0, x0⟩ := open_rec (hval 0 26 v0 rfl rfl) h0
  obtain ⟨a1, rfl, rfl, rfl, w1⟩ := open_int Try.underlying3 (hval 1 3 v1 rfl rfl) h1
  clear hA0 hval0
  refine (walkWalNil v0 a0 a1 W w0 x0 w1).mono fun e W' ⟨he, bel⟩ => ?_
  subst he
  exact ⟨_, rfl, _, _, _, [], _, [], hW', trodAll_mk1 (shut_bool Try.underlying4 _), (trodAll_cons_mk (Below.trod laidOut (by kernel_rfl) (of_decide_eq_true (by kernel_rfl)) k0 bel lt0) (trodAll_cons_mk (Below.trod laidOut (by kernel_rfl) (of_decide_eq_true (by kernel_rfl)) k1 bel lt1) trodAll_mk0)), rfl, bel.frame _, fun h => by cases h⟩

theorem over : Rows.walNilRow.holds Try.pinned (OpenSpec.ofChange Rows.walNilSpec) :=
  OpenClaim.holds_of_wide 7 Try.f7 rfl rfl rfl rfl rfl rfl rfl ⟨rfl, rfl, rfl, rfl, rfl⟩ rfl rfl rfl rfl rfl (by kernel_rfl) Try.func7 (by kernel_rfl)
    (of_decide_eq_true (by kernel_rfl)) (by unfold Func.isWrapper; first | (rw [if_pos (by decide +kernel)]; kernel_rfl) | (rw [if_neg (by decide +kernel)]; exact ⟨rfl, rfl⟩))
    (fun os started H enc _ => lifted os started H enc)

/-- The given statement. -/
theorem proved : Rows.WalNilSaid := over
end Go.Proofs.Ytopihafmajadfaa.walNil
