/- careenlaw09: what the document fixes comes out; the statement LockNil, walked. -/
import Derived.Test.YtkeonffkaopclaaLkI
namespace Go.Proofs.Ytkeonffkaopclaa
open Go.RowKit

namespace Aw9
def S1 : Lk := Lk.empty.take 1 0 1
def S2 : Lk := S1.take 2 0 1
def S3 : Lk := S2.take 1 0 2
def S4 : Lk := S3.free 2
def S5 : Lk := S4.take 1 0 2
theorem m1 : Lk.empty.may 1 0 1 = 0 := by decide
theorem m2 : S1.may 2 0 1 = 0 := by decide
theorem m3 : S2.may 1 0 2 = 6 := by decide
theorem n4 : (S3.pages 2).length = 1 := by decide
theorem m5 : S4.may 1 0 2 = 0 := by decide
theorem d5 : S5.mode 1 0 = 2 := by decide
theorem p5 : S5.pages 1 = [0] := by decide
theorem m6 : S5.may 0 0 1 = 1 := by decide
end Aw9
set_option maxRecDepth 100000 in
set_option maxHeartbeats 16000000 in
theorem awake9 (w : World) : Calls Try.prog 8 #[] w fun e w' => e = .returned (.bool true) ∧ Below w.heap.size w w' := by
  go_enter Try.func8, Try.ntmps8
  go_wp2_with fail
  refine (LiveK.make (Below.refl _ _)).mono ?_
  rintro e w1 ⟨F0, q, rfl, L0⟩
  have T1 := L0.take 1 0 1
  rw [Aw9.m1, show Lk.empty.take 1 0 1 = Aw9.S1 from rfl] at T1
  have K1 := Lib.hid T1
  clear T1 L0
  go_wp2_with fail
  refine K1.out.mono ?_
  rintro e w2 ⟨F1, rfl, L1, -⟩
  have T2 := L1.take 2 0 1
  rw [Aw9.m2, show Aw9.S1.take 2 0 1 = Aw9.S2 from rfl] at T2
  have K2 := Lib.hid T2
  clear T2 L1 K1
  go_wp2_with fail
  refine K2.out.mono ?_
  rintro e w3 ⟨F2, rfl, L2, -⟩
  have T3 := L2.take 1 0 2
  rw [Aw9.m3, show Aw9.S2.take 1 0 2 = Aw9.S3 from rfl] at T3
  have K3 := Lib.hid T3
  clear T3 L2 K2
  go_wp2_with fail
  refine K3.out.mono ?_
  rintro e w4 ⟨F3, rfl, L3, -⟩
  have T4 := L3.free 2
  rw [Aw9.n4, show Aw9.S3.free 2 = Aw9.S4 from rfl] at T4
  have K4 := Lib.hid T4
  clear T4 L3 K3
  go_wp2_with fail
  refine K4.out.mono ?_
  rintro e w5 ⟨F4, rfl, L4, -⟩
  have T5 := L4.take 1 0 2
  rw [Aw9.m5, show Aw9.S4.take 1 0 2 = Aw9.S5 from rfl] at T5
  have K5 := Lib.hid T5
  clear T5 L4 K4
  go_wp2_with fail
  refine K5.out.mono ?_
  rintro e w6 ⟨F5, rfl, L5, -⟩
  have T6 := L5.mode 1 0
  rw [Aw9.d5] at T6
  have K6 := Lib.hid T6
  clear T6 L5 K5
  go_wp2_with fail
  refine K6.out.mono ?_
  rintro e w7 ⟨rfl, L6, -⟩
  have T7 := L6.pages 1
  rw [Aw9.p5] at T7
  have K7 := Lib.hid T7
  clear T7 L6 K6
  go_wp2_with fail
  refine K7.out.mono ?_
  rintro e w8 ⟨a, cap, rfl, R8, L7, -⟩
  have HL7 := Lib.hid L7
  have HR8 := Lib.hid R8
  have HB9 : Hid (Below w8.heap.size w8 (w8.alloc (.cells #[.int .i64 0] 3))) := (Below.refl _ _).alloc (Nat.le_refl _) _
  have RN : Hid (Reads (w8.alloc (.cells #[.int .i64 0] 3)) (.slice (some ⟨w8.heap.size, 0, none⟩) 1 1) (numsV [0])) :=
    ⟨_, _, rfl, Nat.le_refl _, fun j x hj => ⟨_, _, rfl, by
      match j, hj with
      | 0, hj =>
        have e : x = .int .i64 0 := by simpa [numsV] using hj.symm
        subst e
        exact (Blk.new w8 3 #[.int .i64 0]).cellAt (i := 0) (by simp)⟩⟩
  clear L7 R8 K7
  go_wp2_with fail
  refine (refSame9_any _ _ cap 1 [0] (HR8.out.keep HB9.out) RN.out (by decide)).mono ?_
  rintro e w9 ⟨rfl, hb9⟩
  have L9 := (HL7.out.more HB9.out).more hb9
  have T9 := L9.may 0 0 1
  rw [Aw9.m6] at T9
  have K9 := Lib.hid T9
  clear T9 L9 hb9 HL7 HR8 HB9 RN
  go_wp2_with fail
  refine K9.out.mono ?_
  rintro e w10 ⟨rfl, L10, -⟩
  have HB := Lib.hid L10.below
  clear L10 K9
  go_wp2
  go_ret
  exact ⟨rfl, HB.out⟩
set_option maxRecDepth 100000 in
set_option maxHeartbeats 16000000 in
theorem walkLockNil (t p m : Int) (w : World) (_ : (Lit.int .i64 t).wf = true) (_ : (Lit.int .i64 p).wf = true) (_ : (Lit.int .i64 m).wf = true) :
    Calls Try.prog 5 #[.int .i64 t, .int .i64 p, .int .i64 m] w fun e w' => e = .returned (.bool true) ∧ Below w.heap.size w w' := by
  go_enter Try.func5, Try.ntmps5
  go_wp2_with fail
  refine (awake9 _).mono ?_
  rintro e w1 ⟨rfl, hb⟩
  have HB := Lib.hid hb
  clear hb
  go_wp2_with fail
  refine (lkMay_nil _ _ _ _).mono ?_
  rintro e w2 ⟨rfl, rfl⟩
  go_wp2_with fail
  refine (lkTake_nil _ _ _ _).mono ?_
  rintro e w2 ⟨rfl, rfl⟩
  go_wp2_with fail
  refine (lkFree_nil _ _).mono ?_
  rintro e w2 ⟨rfl, rfl⟩
  go_wp2_with fail
  refine (lkMode_nil _ _ _).mono ?_
  rintro e w2 ⟨rfl, rfl⟩
  go_wp2_with fail
  refine (lkPages_nil _ _).mono ?_
  rintro e w2 ⟨rfl, rfl⟩
  go_wp2_with fail
  refine (lkCopy_nil _).mono ?_
  rintro e w2 ⟨rfl, rfl⟩
  go_wp2
  go_ret
  exact ⟨rfl, HB.out⟩
end Go.Proofs.Ytkeonffkaopclaa
