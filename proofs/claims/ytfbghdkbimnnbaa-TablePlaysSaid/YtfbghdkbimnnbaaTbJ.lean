/- careenlaw10: what the document fixes comes out; the statement TableNil, walked. -/
import Derived.Test.YtfbghdkbimnnbaaTbI
namespace Go.Proofs.Ytfbghdkbimnnbaa
open Go.RowKit

namespace Aw10
def S1 : Tb := [⟨1, 0, 0, 0, []⟩]
def S2 : Tb := [⟨1, 128, 128, 0, []⟩]
def S3 : Tb := [⟨1, 128, 128, 1, []⟩]
def S4 : Tb := [⟨1, 128, 128, 1, [(128, 1)]⟩]
def S5 : Tb := [⟨1, 128, 160, 1, [(128, 1)]⟩]
def S6 : Tb := [⟨1, 128, 160, 2, [(128, 1)]⟩]
end Aw10
namespace Aw10
theorem s0 : (Tb.beginT [] 1).1 = S1 := rfl
theorem r0 : (Tb.beginT [] 1).2 = 0 := rfl
theorem s1 : (Tb.logT S1 1 128).1 = S2 := rfl
theorem r1 : (Tb.logT S1 1 128).2 = 0 := rfl
theorem s2 : (Tb.leftT S2 1 1).1 = S3 := rfl
theorem r2 : (Tb.leftT S2 1 1).2 = 0 := rfl
theorem s3 : (Tb.markT S3 1 1).1 = S4 := rfl
theorem r3 : (Tb.markT S3 1 1).2 = (0, 0) := rfl
theorem s4 : (Tb.logT S4 1 160).1 = S5 := rfl
theorem r4 : (Tb.logT S4 1 160).2 = 0 := rfl
theorem s5 : (Tb.leftT S5 1 1).1 = S6 := rfl
theorem r5 : (Tb.leftT S5 1 1).2 = 0 := rfl
theorem r6 : Tb.need S6 = 3 := rfl
theorem s7 : (Tb.backT S6 1 0).1 = S6 := rfl
theorem r7 : (Tb.backT S6 1 0).2 = ((128, 1), 0) := rfl
theorem s8 : (Tb.beginT S6 1).1 = S6 := rfl
theorem r8 : (Tb.beginT S6 1).2 = 9 := rfl
theorem r9 : Tb.rows S6 = [(1, 128, 160)] := rfl
end Aw10
set_option maxRecDepth 100000 in
set_option maxHeartbeats 16000000 in
theorem awake10 (w : World) : Calls Try.prog 8 #[] w fun e w' => e = .returned (.bool true) ∧ Below w.heap.size w w' := by
  go_enter Try.func8, Try.ntmps8
  go_wp2_with fail
  refine (LiveT.make (Below.refl _ _)).mono ?_
  rintro e w0 ⟨F0, q, rfl, L0⟩
  have T1 := L0.begin 1
  rw [Aw10.s0, Aw10.r0] at T1
  have K1 := Lib.hid T1
  clear T1 L0
  go_wp2_with fail
  refine K1.out.mono ?_
  rintro e w1 ⟨F1, rfl, L1, -⟩
  have T2 := L1.log 1 128
  rw [Aw10.s1, Aw10.r1] at T2
  have K2 := Lib.hid T2
  clear T2 L1 K1
  go_wp2_with fail
  refine K2.out.mono ?_
  rintro e w2 ⟨F2, rfl, L2, -⟩
  have T3 := L2.left 1 1
  rw [Aw10.s2, Aw10.r2] at T3
  have K3 := Lib.hid T3
  clear T3 L2 K2
  go_wp2_with fail
  refine K3.out.mono ?_
  rintro e w3 ⟨F3, rfl, L3, -⟩
  have T4 := L3.mark 1 1
  rw [Aw10.s3, Aw10.r3] at T4
  simp only at T4
  have K4 := Lib.hid T4
  clear T4 L3 K3
  go_wp2_with fail
  refine K4.out.mono ?_
  rintro e w4 ⟨F4, rfl, L4, -⟩
  have T5 := L4.log 1 160
  rw [Aw10.s4, Aw10.r4] at T5
  have K5 := Lib.hid T5
  clear T5 L4 K4
  go_wp2_with fail
  refine K5.out.mono ?_
  rintro e w5 ⟨F5, rfl, L5, -⟩
  have T6 := L5.left 1 1
  rw [Aw10.s5, Aw10.r5] at T6
  have K6 := Lib.hid T6
  clear T6 L5 K5
  go_wp2_with fail
  refine K6.out.mono ?_
  rintro e w6 ⟨F6, rfl, L6, -⟩
  have T7 := L6.need 
  rw [Aw10.r6] at T7
  have K7 := Lib.hid T7
  clear T7 L6 K6
  go_wp2_with fail
  refine K7.out.mono ?_
  rintro e w7 ⟨rfl, L7, -⟩
  have T8 := L7.back 1 0
  rw [Aw10.s7, Aw10.r7] at T8
  simp only at T8
  have K8 := Lib.hid T8
  clear T8 L7 K7
  go_wp2_with fail
  refine K8.out.mono ?_
  rintro e w8 ⟨F8, rfl, L8, -⟩
  have T9 := L8.begin 1
  rw [Aw10.s8, Aw10.r8] at T9
  have K9 := Lib.hid T9
  clear T9 L8 K8
  go_wp2_with fail
  refine K9.out.mono ?_
  rintro e w9 ⟨F9, rfl, L9, -⟩
  have T10 := L9.rows 
  rw [Aw10.r9] at T10
  have K10 := Lib.hid T10
  clear T10 L9 K9
  go_wp2_with fail
  refine K10.out.mono ?_
  rintro e w10 ⟨a, cap, rfl, R10, L10, -⟩
  have HR := Lib.hid R10
  have HB9 : Hid (Below w10.heap.size w10 (w10.alloc (.cells #[.int .i64 1, .int .i64 128, .int .i64 160] 46))) := (Below.refl _ _).alloc (Nat.le_refl _) _
  have RN : Hid (RowsAt (w10.alloc (.cells #[.int .i64 1, .int .i64 128, .int .i64 160] 46)) (some ⟨w10.heap.size, 0, none⟩) 1 [(1, 128, 160)]) := by
    refine ⟨Nat.le_refl _, fun j p hj => ?_⟩
    have X := Blk.new w10 46 #[.int .i64 1, .int .i64 128, .int .i64 160]
    match j, hj with
    | 0, hj =>
      have e : p = (1, 128, 160) := by simpa using hj.symm
      subst e
      exact ⟨_, 0, rfl, X.cell 0, X.cell 1, X.cell 2⟩
  have HL := Lib.hid (L10.below)
  clear R10 L10 K10
  go_wp2_with fail
  refine (refSame10_any _ _ cap 1 [(1, 128, 160)] (HR.out.below HB9.out) RN.out (by decide)).mono ?_
  rintro e w11 ⟨rfl, hb11⟩
  have HB := Lib.hid (below2 (below2 HL.out HB9.out) hb11)
  clear hb11
  go_wp2
  go_ret
  exact ⟨rfl, HB.out⟩
set_option maxRecDepth 100000 in
set_option maxHeartbeats 16000000 in
theorem walkTableNil (n k : Int) (w : World) (_ : (Lit.int .i64 n).wf = true) (_ : (Lit.int .i64 k).wf = true) :
    Calls Try.prog 5 #[.int .i64 n, .int .i64 k] w fun e w' => e = .returned (.bool true) ∧ Below w.heap.size w w' := by
  go_enter Try.func5, Try.ntmps5
  go_wp2_with fail
  refine (tbMark_nil _ _ _).mono ?_
  rintro e w1 ⟨rfl, rfl⟩
  go_wp2_with fail
  refine (tbBack_nil _ _ _).mono ?_
  rintro e w1 ⟨rfl, rfl⟩
  go_wp2_with fail
  refine (tbRow_nil _ _).mono ?_
  rintro e w1 ⟨rfl, hb⟩
  have X := Blk.new w1 46 #[.int .i64 0, .int .i64 0, .int .i64 0]
  have HB1 := Lib.hid (hb.alloc hb.size (.cells #[.int .i64 0, .int .i64 0, .int .i64 0] 46))
  have HZ := Lib.hid hb.size
  have HX := Lib.hid X
  clear hb X
  go_wp2_with (refine wpList_store_row rfl 46 _ _ rfl w1.heap.size _ rfl rfl 46 _ HX.out (by kernel_rfl) (by simp) (by simp [Value.oneCell']) ?_)
  have HB2 := Lib.hid ((Spare.setRow (S := (· = w1.heap.size)) rfl #[.int .i64 0, .int .i64 0, .int .i64 0]).below HB1.out (fun b e => by rw [e]; exact HZ.out) HB1.out.size)
  clear HX HB1
  refine (awake10 _).mono ?_
  rintro e w2 ⟨rfl, hb⟩
  have HB := Lib.hid (below2 HB2.out hb)
  clear hb HB2
  go_wp2_with fail
  refine (tbBegin_nil _ _).mono ?_
  rintro e w3 ⟨rfl, rfl⟩
  go_wp2_with fail
  refine (tbLog_nil _ _ _).mono ?_
  rintro e w3 ⟨rfl, rfl⟩
  go_wp2_with fail
  refine (tbLeft_nil _ _ _).mono ?_
  rintro e w3 ⟨rfl, rfl⟩
  go_wp2_with fail
  refine (tbEnd_nil _ _).mono ?_
  rintro e w3 ⟨rfl, rfl⟩
  go_wp2_with fail
  refine (tbRows_nil _).mono ?_
  rintro e w3 ⟨rfl, rfl⟩
  go_wp2_with fail
  refine (tbNeed_nil _).mono ?_
  rintro e w3 ⟨rfl, rfl⟩
  go_wp2
  go_ret
  exact ⟨rfl, HB.out⟩
end Go.Proofs.Ytfbghdkbimnnbaa
