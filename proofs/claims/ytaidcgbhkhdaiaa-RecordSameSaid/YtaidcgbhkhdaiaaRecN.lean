/- Layer 4's statements: RecordSame, walked. -/
import Derived.Test.YtaidcgbhkhdaiaaRecM2
import Derived.Test.YtaidcgbhkhdaiaaRecK
import Derived.Test.YtaidcgbhkhdaiaaOpenRec
namespace Go.Proofs.Ytaidcgbhkhdaiaa
open Go.RowKit

set_option maxRecDepth 100000 in
set_option maxHeartbeats 16000000 in
theorem recordSame_big {w : World} {va vb : Value} {a b : Rc} (ha : IsRec w va a) (hb : IsRec w vb b) (sa : Sized a) (hf : ¬ Fit a) :
    Calls Try.prog 7 #[va, vb] w fun e w' => e = .returned (.bool true) ∧ Below w.heap.size w w' := by
  obtain ⟨at_, ap, rfl, la⟩ := ha
  obtain ⟨bt, bp, rfl, lb⟩ := hb
  have FA := Lib.hid (fun W (hW : Below w.heap.size w W) => (few_no ⟨at_, ap, rfl, la.keep hW⟩ sa hf : Calls Try.prog 12 #[.agg (recCells a at_ ap)] W _))
  have hB : Below w.heap.size w ((w.alloc (.cells (recCells a at_ ap) 25)).alloc (.cells (recCells b bt bp) 25)) := ((Below.refl _ _).alloc (Nat.le_refl _) _).alloc (by simp) _
  have BA := Lib.hid ((Blk.new w 25 (recCells a at_ ap)).alloc (.cells (recCells b bt bp) 25))
  have BB0 := Blk.new (w.alloc (.cells (recCells a at_ ap) 25)) 25 (recCells b bt bp)
  rw [World.size_alloc] at BB0
  have BB := Lib.hid BB0
  have HB := Lib.hid hB
  clear la lb hB BB0 sa hf
  unfold recV
  go_enter Try.func7, Try.ntmps7
  go_wp2_with fail
  generalize (w.alloc (.cells (recCells a at_ ap) 25)).alloc (.cells (recCells b bt bp) 25) = W0 at *
  refine' wp_region_conf 25 [.is _, .is _, .is _, .is _, .is _, .is _, .is _, .is _, .is _, .is _, .is _, .is _, .is _, .is _, .is _, .is _, .is _, .is _, .is _, .is _, .is _, .is _, .is _, .is _, .is _] (by kernel_rfl) (by kernel_rfl) (by kernel_rfl) (by kernel_rfl) rfl ?main
  case main =>
    iterate 25
      refine obs_is (fun w5 hE2 _ => ?_) ?_
      · have bA := BA.out.drew.keep hE2 BA.out.lt
        have bB := BB.out.drew.keep hE2 BB.out.lt
        have hW : Below w.heap.size w w5 := below2 HB.out.drew hE2
        have HW := Lib.hid hW
        clear hW
        go_wp2_with (first
          | (refine wpList_load_rowG rfl 25 _ rfl w.heap.size rfl 25 _ (0, 0) _ bA Try.underlying25 rfl (by kernel_rfl) ?_)
          | (refine wpList_load_rowG rfl 25 _ rfl (w.heap.size + 1) rfl 25 _ (0, 0) _ bB Try.underlying25 rfl (by kernel_rfl) ?_)
          | (refine (awake_any _).mono ?_; rintro e w3 ⟨rfl, hb3⟩)
          | ((with_reducible refine (FA.out _ HW.out).mono ?_); rintro e w3 ⟨rfl, hb3⟩))
        first | exact post_is hb3 | exact post_is (Below.refl _ _)
      simp only [Act.put, List.setIfInBounds_toArray, List.set_cons_zero, List.set_cons_succ]
    refine obs_end fun w5 hE3 _ => ?_
    have hW : Below w.heap.size w w5 := below2 HB.out.drew hE3
    have HW := Lib.hid hW
    clear hE3 hW
    go_wp2
    go_ret
    exact ⟨rfl, HW.out⟩

set_option maxRecDepth 100000 in
set_option maxHeartbeats 16000000 in
theorem recordSame_big2 {w : World} {va vb : Value} {a b : Rc} (ha : IsRec w va a) (hb : IsRec w vb b) (hf : Fit a) (sb : Sized b) (hg : ¬ Fit b) :
    Calls Try.prog 7 #[va, vb] w fun e w' => e = .returned (.bool true) ∧ Below w.heap.size w w' := by
  obtain ⟨at_, ap, rfl, la⟩ := ha
  obtain ⟨bt, bp, rfl, lb⟩ := hb
  have FA := Lib.hid (fun W (hW : Below w.heap.size w W) => (few_yes ⟨at_, ap, rfl, la.keep hW⟩ hf : Calls Try.prog 12 #[.agg (recCells a at_ ap)] W _))
  have FB := Lib.hid (fun W (hW : Below w.heap.size w W) => (few_no ⟨bt, bp, rfl, lb.keep hW⟩ sb hg : Calls Try.prog 12 #[.agg (recCells b bt bp)] W _))
  have hB : Below w.heap.size w ((w.alloc (.cells (recCells a at_ ap) 25)).alloc (.cells (recCells b bt bp) 25)) := ((Below.refl _ _).alloc (Nat.le_refl _) _).alloc (by simp) _
  have BA := Lib.hid ((Blk.new w 25 (recCells a at_ ap)).alloc (.cells (recCells b bt bp) 25))
  have BB0 := Blk.new (w.alloc (.cells (recCells a at_ ap) 25)) 25 (recCells b bt bp)
  rw [World.size_alloc] at BB0
  have BB := Lib.hid BB0
  have HB := Lib.hid hB
  clear la lb hB BB0 hf sb hg
  unfold recV
  go_enter Try.func7, Try.ntmps7
  go_wp2_with fail
  generalize (w.alloc (.cells (recCells a at_ ap) 25)).alloc (.cells (recCells b bt bp) 25) = W0 at *
  refine' wp_region_conf 25 [.is _, .is _, .is _, .is _, .is _, .is _, .is _, .is _, .is _, .is _, .is _, .is _, .is _, .is _, .is _, .is _, .is _, .is _, .is _, .is _, .is _, .is _, .is _, .is _, .is _] (by kernel_rfl) (by kernel_rfl) (by kernel_rfl) (by kernel_rfl) rfl ?main
  case main =>
    iterate 25
      refine obs_is (fun w5 hE2 _ => ?_) ?_
      · have bA := BA.out.drew.keep hE2 BA.out.lt
        have bB := BB.out.drew.keep hE2 BB.out.lt
        have hW : Below w.heap.size w w5 := below2 HB.out.drew hE2
        have HW := Lib.hid hW
        clear hW
        go_wp2_with (first
          | (refine wpList_load_rowG rfl 25 _ rfl w.heap.size rfl 25 _ (0, 0) _ bA Try.underlying25 rfl (by kernel_rfl) ?_)
          | (refine wpList_load_rowG rfl 25 _ rfl (w.heap.size + 1) rfl 25 _ (0, 0) _ bB Try.underlying25 rfl (by kernel_rfl) ?_)
          | (refine (awake_any _).mono ?_; rintro e w3 ⟨rfl, hb3⟩)
          | ((with_reducible refine (FA.out _ HW.out).mono ?_); rintro e w3 ⟨rfl, hb3⟩)
          | ((with_reducible refine (FB.out _ HW.out).mono ?_); rintro e w3 ⟨rfl, hb3⟩))
        first | exact post_is hb3 | exact post_is (Below.refl _ _)
      simp only [Act.put, List.setIfInBounds_toArray, List.set_cons_zero, List.set_cons_succ]
    refine obs_end fun w5 hE3 _ => ?_
    have hW : Below w.heap.size w w5 := below2 HB.out.drew hE3
    have HW := Lib.hid hW
    clear hE3 hW
    go_wp2
    go_ret
    exact ⟨rfl, HW.out⟩

set_option maxRecDepth 100000 in
set_option maxHeartbeats 16000000 in
theorem recordSame_both {w : World} {va vb : Value} {a b : Rc} (ha : IsRec w va a) (hb : IsRec w vb b) (hf : Fit a) (hg : Fit b) :
    Calls Try.prog 7 #[va, vb] w fun e w' => e = .returned (.bool true) ∧ Below w.heap.size w w' := by
  obtain ⟨at_, ap, rfl, la⟩ := ha
  obtain ⟨bt, bp, rfl, lb⟩ := hb
  have FA := Lib.hid (fun W (hW : Below w.heap.size w W) => (few_yes ⟨at_, ap, rfl, la.keep hW⟩ hf : Calls Try.prog 12 #[.agg (recCells a at_ ap)] W _))
  have FB := Lib.hid (fun W (hW : Below w.heap.size w W) => (few_yes ⟨bt, bp, rfl, lb.keep hW⟩ hg : Calls Try.prog 12 #[.agg (recCells b bt bp)] W _))
  obtain ⟨q, hq⟩ : ∃ q, q = decide (a = b) := ⟨_, rfl⟩
  have S1 : Hid (∀ W, Below w.heap.size w W → Calls Try.prog 22 #[.agg (recCells a at_ ap), .agg (recCells b bt bp)] W fun e w' => e = .returned (.bool q) ∧ Below W.heap.size W w') := fun W hW => same_any ⟨at_, ap, rfl, la.keep hW⟩ ⟨bt, bp, rfl, lb.keep hW⟩ q hq
  have S2 : Hid (∀ W, Below w.heap.size w W → Calls Try.prog 20 #[.agg (recCells a at_ ap), .agg (recCells b bt bp)] W fun e w' => e = .returned (.bool q) ∧ Below W.heap.size W w') := fun W hW => refSame_any ⟨at_, ap, rfl, la.keep hW⟩ ⟨bt, bp, rfl, lb.keep hW⟩ q hq
  have S3 : Hid (∀ W, Below w.heap.size w W → Calls Try.prog 22 #[.agg (recCells a at_ ap), .agg (recCells a at_ ap)] W fun e w' => e = .returned (.bool true) ∧ Below W.heap.size W w') := fun W hW => same_any ⟨at_, ap, rfl, la.keep hW⟩ ⟨at_, ap, rfl, la.keep hW⟩ true (by simp)
  have hB : Below w.heap.size w ((w.alloc (.cells (recCells a at_ ap) 25)).alloc (.cells (recCells b bt bp) 25)) := ((Below.refl _ _).alloc (Nat.le_refl _) _).alloc (by simp) _
  have BA := Lib.hid ((Blk.new w 25 (recCells a at_ ap)).alloc (.cells (recCells b bt bp) 25))
  have BB0 := Blk.new (w.alloc (.cells (recCells a at_ ap) 25)) 25 (recCells b bt bp)
  rw [World.size_alloc] at BB0
  have BB := Lib.hid BB0
  have HB := Lib.hid hB
  clear la lb hB BB0 hf hg hq
  unfold recV
  go_enter Try.func7, Try.ntmps7
  go_wp2_with fail
  generalize (w.alloc (.cells (recCells a at_ ap) 25)).alloc (.cells (recCells b bt bp) 25) = W0 at *
  refine' wp_region_conf 25 [.is _, .is _, .is _, .is _, .is _, .is _, .is _, .is _, .is _, .is _, .is _, .is _, .is _, .is _, .is _, .is _, .is _, .is _, .is _, .is _, .is _, .is _, .is _, .is _, .is _] (by kernel_rfl) (by kernel_rfl) (by kernel_rfl) (by kernel_rfl) rfl ?main
  case main =>
    iterate 25
      refine obs_is (fun w5 hE2 _ => ?_) ?_
      · have bA := BA.out.drew.keep hE2 BA.out.lt
        have bB := BB.out.drew.keep hE2 BB.out.lt
        have hW : Below w.heap.size w w5 := below2 HB.out.drew hE2
        have HW := Lib.hid hW
        clear hW
        go_wp2_with (first
          | (refine wpList_load_rowG rfl 25 _ rfl w.heap.size rfl 25 _ (0, 0) _ bA Try.underlying25 rfl (by kernel_rfl) ?_)
          | (refine wpList_load_rowG rfl 25 _ rfl (w.heap.size + 1) rfl 25 _ (0, 0) _ bB Try.underlying25 rfl (by kernel_rfl) ?_)
          | (refine (awake_any _).mono ?_; rintro e w3 ⟨rfl, hb3⟩)
          | ((with_reducible refine (FA.out _ HW.out).mono ?_); rintro e w3 ⟨rfl, hb3⟩)
          | ((with_reducible refine (FB.out _ HW.out).mono ?_); rintro e w3 ⟨rfl, hb3⟩)
          | ((with_reducible refine (S1.out _ HW.out).mono ?_); rintro e w3 ⟨rfl, hb3⟩)
          | ((with_reducible refine (S2.out _ HW.out).mono ?_); rintro e w3 ⟨rfl, hb3⟩)
          | ((with_reducible refine (S3.out _ HW.out).mono ?_); rintro e w3 ⟨rfl, hb3⟩))
        first | exact post_is hb3 | exact post_is (Below.refl _ _)
      simp only [Act.put, List.setIfInBounds_toArray, List.set_cons_zero, List.set_cons_succ]
    refine obs_end fun w5 hE3 _ => ?_
    have hW : Below w.heap.size w w5 := below2 HB.out.drew hE3
    have HW := Lib.hid hW
    clear hE3 hW
    go_wp2
    go_ret
    exact ⟨rfl, HW.out⟩

theorem walkRecordSame (va : Value) (a : Rc) (vb : Value) (b : Rc) (w : World) (ha : IsRec w va a) (sa : Sized a) (hb : IsRec w vb b) (sb : Sized b) :
    Calls Try.prog 7 #[va, vb] w fun e w' => e = .returned (.bool true) ∧ Below w.heap.size w w' := by
  by_cases hf : Fit a
  · by_cases hg : Fit b
    · exact recordSame_both ha hb hf hg
    · exact recordSame_big2 ha hb hf sb hg
  · exact recordSame_big ha hb sa hf
end Go.Proofs.Ytaidcgbhkhdaiaa
