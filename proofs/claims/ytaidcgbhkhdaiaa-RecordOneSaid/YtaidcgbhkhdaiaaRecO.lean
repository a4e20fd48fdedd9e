/- Layer 4's statements: RecordOne, walked. -/
import Derived.Test.YtaidcgbhkhdaiaaRecM2
import Derived.Test.YtaidcgbhkhdaiaaOpenRec
namespace Go.Proofs.Ytaidcgbhkhdaiaa
open Go.RowKit

/-- What Print answers, whichever it is. -/
theorem print_some {w : World} {v : Value} {r : Rc} (hv : IsRec w v r) (hf : Fit r) : ∃ (s : ByteArray) (er : Int), ∀ W, Below w.heap.size w W →
    Calls Try.prog 13 #[v] W fun e w' => e = .returned (.tuple #[.string s, .int .i64 er]) ∧ Below W.heap.size W w' := by
  by_cases hm : May r
  · exact ⟨_, _, fun W hW => print_yes (hv.keep hW) hm⟩
  · exact ⟨_, _, fun W hW => print_no (hv.keep hW) hf hm⟩
theorem bytes_eq (l m : List UInt8) : ((⟨l.toArray⟩ : ByteArray).toList == (⟨m.toArray⟩ : ByteArray).toList) = decide (l = m) := by
  rw [ByteArray.toList_eq, ByteArray.toList_eq]
  by_cases h : l = m
  · simp [h]
  · simp [h]
theorem lay_eq {a b : Rc} (ha : May a) (hb : May b) : lay a = lay b ↔ a = b :=
  ⟨fun h => (lay_inj ha hb (l := []) (m := []) (by rw [h])).1, fun h => by rw [h]⟩

set_option maxRecDepth 100000 in
set_option maxHeartbeats 16000000 in
theorem recordOne_big {w : World} {va vb : Value} {a b : Rc} (ha : IsRec w va a) (hb : IsRec w vb b) (sa : Sized a) (hf : ¬ Fit a) :
    Calls Try.prog 8 #[va, vb] w fun e w' => e = .returned (.bool true) ∧ Below w.heap.size w w' := by
  obtain ⟨at_, ap, rfl, la⟩ := ha
  obtain ⟨bt, bp, rfl, lb⟩ := hb
  have FA := Lib.hid (fun W (hW : Below w.heap.size w W) => (few_no ⟨at_, ap, rfl, la.keep hW⟩ sa hf : Calls Try.prog 12 #[.agg (recCells a at_ ap)] W _))
  have hB : Below w.heap.size w ((w.alloc (.cells (recCells a at_ ap) 25)).alloc (.cells (recCells b bt bp) 25)) := ((Below.refl _ _).alloc (Nat.le_refl _) _).alloc (by simp) _
  have BA0 := (Blk.new w 25 (recCells a at_ ap)).alloc (.cells (recCells b bt bp) 25)
  have BB0 := Blk.new (w.alloc (.cells (recCells a at_ ap) 25)) 25 (recCells b bt bp)
  rw [World.size_alloc] at BB0
  clear la lb sa hf
  unfold recV
  go_enter Try.func8, Try.ntmps8
  go_wp2_with fail
  generalize (w.alloc (.cells (recCells a at_ ap) 25)).alloc (.cells (recCells b bt bp) 25) = w0 at *
  have BA := Lib.hid BA0
  have BB := Lib.hid BB0
  have HB := Lib.hid hB
  clear hB BA0 BB0
  refine (awake_any _).mono ?_
  rintro e w1 ⟨rfl, hb⟩
  have HB2 := Lib.hid (below2 HB.out hb)
  have bA := BA.out.keep hb BA.out.lt
  have bB := BB.out.keep hb BB.out.lt
  have BA2 := Lib.hid bA
  have BB2 := Lib.hid bB
  clear hb HB BA BB
  go_wp2_with (first
    | (refine wpList_load_rowG rfl 25 _ rfl w.heap.size rfl 25 _ (0, 0) _ bA Try.underlying25 rfl (by kernel_rfl) ?_)
    | (refine wpList_load_rowG rfl 25 _ rfl (w.heap.size + 1) rfl 25 _ (0, 0) _ bB Try.underlying25 rfl (by kernel_rfl) ?_))
  have BA := BA2
  have BB := BB2
  have HB := HB2
  clear bA bB BA2 BB2 HB2
  refine (FA.out _ HB.out).mono ?_
  rintro e w2 ⟨rfl, hb⟩
  have HB2 := Lib.hid (below2 HB.out hb)
  have bA := BA.out.keep hb BA.out.lt
  have bB := BB.out.keep hb BB.out.lt
  have BA2 := Lib.hid bA
  have BB2 := Lib.hid bB
  clear hb HB BA BB
  go_wp2_with (first
    | (refine wpList_load_rowG rfl 25 _ rfl w.heap.size rfl 25 _ (0, 0) _ bA Try.underlying25 rfl (by kernel_rfl) ?_)
    | (refine wpList_load_rowG rfl 25 _ rfl (w.heap.size + 1) rfl 25 _ (0, 0) _ bB Try.underlying25 rfl (by kernel_rfl) ?_))
  have BA := BA2
  have BB := BB2
  have HB := HB2
  clear bA bB BA2 BB2 HB2
  refine (awake_any _).mono ?_
  rintro e w3 ⟨rfl, hb⟩
  have HB2 := Lib.hid (below2 HB.out hb)
  have bA := BA.out.keep hb BA.out.lt
  have bB := BB.out.keep hb BB.out.lt
  have BA2 := Lib.hid bA
  have BB2 := Lib.hid bB
  clear hb HB BA BB
  go_wp2_with (first
    | (refine wpList_load_rowG rfl 25 _ rfl w.heap.size rfl 25 _ (0, 0) _ bA Try.underlying25 rfl (by kernel_rfl) ?_)
    | (refine wpList_load_rowG rfl 25 _ rfl (w.heap.size + 1) rfl 25 _ (0, 0) _ bB Try.underlying25 rfl (by kernel_rfl) ?_))
  have BA := BA2
  have BB := BB2
  have HB := HB2
  clear bA bB BA2 BB2 HB2
  go_ret
  exact ⟨rfl, HB.out⟩

set_option maxRecDepth 100000 in
set_option maxHeartbeats 16000000 in
theorem recordOne_big2 {w : World} {va vb : Value} {a b : Rc} (ha : IsRec w va a) (hb : IsRec w vb b) (hf : Fit a) (sb : Sized b) (hg : ¬ Fit b) :
    Calls Try.prog 8 #[va, vb] w fun e w' => e = .returned (.bool true) ∧ Below w.heap.size w w' := by
  obtain ⟨at_, ap, rfl, la⟩ := ha
  obtain ⟨bt, bp, rfl, lb⟩ := hb
  have FA := Lib.hid (fun W (hW : Below w.heap.size w W) => (few_yes ⟨at_, ap, rfl, la.keep hW⟩ hf : Calls Try.prog 12 #[.agg (recCells a at_ ap)] W _))
  have FB := Lib.hid (fun W (hW : Below w.heap.size w W) => (few_no ⟨bt, bp, rfl, lb.keep hW⟩ sb hg : Calls Try.prog 12 #[.agg (recCells b bt bp)] W _))
  have hB : Below w.heap.size w ((w.alloc (.cells (recCells a at_ ap) 25)).alloc (.cells (recCells b bt bp) 25)) := ((Below.refl _ _).alloc (Nat.le_refl _) _).alloc (by simp) _
  have BA0 := (Blk.new w 25 (recCells a at_ ap)).alloc (.cells (recCells b bt bp) 25)
  have BB0 := Blk.new (w.alloc (.cells (recCells a at_ ap) 25)) 25 (recCells b bt bp)
  rw [World.size_alloc] at BB0
  clear la lb hf sb hg
  unfold recV
  go_enter Try.func8, Try.ntmps8
  go_wp2_with fail
  generalize (w.alloc (.cells (recCells a at_ ap) 25)).alloc (.cells (recCells b bt bp) 25) = w0 at *
  have BA := Lib.hid BA0
  have BB := Lib.hid BB0
  have HB := Lib.hid hB
  clear hB BA0 BB0
  refine (awake_any _).mono ?_
  rintro e w1 ⟨rfl, hb⟩
  have HB2 := Lib.hid (below2 HB.out hb)
  have bA := BA.out.keep hb BA.out.lt
  have bB := BB.out.keep hb BB.out.lt
  have BA2 := Lib.hid bA
  have BB2 := Lib.hid bB
  clear hb HB BA BB
  go_wp2_with (first
    | (refine wpList_load_rowG rfl 25 _ rfl w.heap.size rfl 25 _ (0, 0) _ bA Try.underlying25 rfl (by kernel_rfl) ?_)
    | (refine wpList_load_rowG rfl 25 _ rfl (w.heap.size + 1) rfl 25 _ (0, 0) _ bB Try.underlying25 rfl (by kernel_rfl) ?_))
  have BA := BA2
  have BB := BB2
  have HB := HB2
  clear bA bB BA2 BB2 HB2
  refine (FA.out _ HB.out).mono ?_
  rintro e w2 ⟨rfl, hb⟩
  have HB2 := Lib.hid (below2 HB.out hb)
  have bA := BA.out.keep hb BA.out.lt
  have bB := BB.out.keep hb BB.out.lt
  have BA2 := Lib.hid bA
  have BB2 := Lib.hid bB
  clear hb HB BA BB
  go_wp2_with (first
    | (refine wpList_load_rowG rfl 25 _ rfl w.heap.size rfl 25 _ (0, 0) _ bA Try.underlying25 rfl (by kernel_rfl) ?_)
    | (refine wpList_load_rowG rfl 25 _ rfl (w.heap.size + 1) rfl 25 _ (0, 0) _ bB Try.underlying25 rfl (by kernel_rfl) ?_))
  have BA := BA2
  have BB := BB2
  have HB := HB2
  clear bA bB BA2 BB2 HB2
  refine (FB.out _ HB.out).mono ?_
  rintro e w3 ⟨rfl, hb⟩
  have HB2 := Lib.hid (below2 HB.out hb)
  have bA := BA.out.keep hb BA.out.lt
  have bB := BB.out.keep hb BB.out.lt
  have BA2 := Lib.hid bA
  have BB2 := Lib.hid bB
  clear hb HB BA BB
  go_wp2_with (first
    | (refine wpList_load_rowG rfl 25 _ rfl w.heap.size rfl 25 _ (0, 0) _ bA Try.underlying25 rfl (by kernel_rfl) ?_)
    | (refine wpList_load_rowG rfl 25 _ rfl (w.heap.size + 1) rfl 25 _ (0, 0) _ bB Try.underlying25 rfl (by kernel_rfl) ?_))
  have BA := BA2
  have BB := BB2
  have HB := HB2
  clear bA bB BA2 BB2 HB2
  refine (awake_any _).mono ?_
  rintro e w4 ⟨rfl, hb⟩
  have HB2 := Lib.hid (below2 HB.out hb)
  have bA := BA.out.keep hb BA.out.lt
  have bB := BB.out.keep hb BB.out.lt
  have BA2 := Lib.hid bA
  have BB2 := Lib.hid bB
  clear hb HB BA BB
  go_wp2_with (first
    | (refine wpList_load_rowG rfl 25 _ rfl w.heap.size rfl 25 _ (0, 0) _ bA Try.underlying25 rfl (by kernel_rfl) ?_)
    | (refine wpList_load_rowG rfl 25 _ rfl (w.heap.size + 1) rfl 25 _ (0, 0) _ bB Try.underlying25 rfl (by kernel_rfl) ?_))
  have BA := BA2
  have BB := BB2
  have HB := HB2
  clear bA bB BA2 BB2 HB2
  go_ret
  exact ⟨rfl, HB.out⟩

set_option maxRecDepth 100000 in
set_option maxHeartbeats 16000000 in
theorem recordOne_a {w : World} {va vb : Value} {a b : Rc} (ha : IsRec w va a) (hb : IsRec w vb b) (hf : Fit a) (hg : Fit b) (hm : ¬ May a) :
    Calls Try.prog 8 #[va, vb] w fun e w' => e = .returned (.bool true) ∧ Below w.heap.size w w' := by
  obtain ⟨at_, ap, rfl, la⟩ := ha
  obtain ⟨bt, bp, rfl, lb⟩ := hb
  have FA := Lib.hid (fun W (hW : Below w.heap.size w W) => (few_yes ⟨at_, ap, rfl, la.keep hW⟩ hf : Calls Try.prog 12 #[.agg (recCells a at_ ap)] W _))
  have FB := Lib.hid (fun W (hW : Below w.heap.size w W) => (few_yes ⟨bt, bp, rfl, lb.keep hW⟩ hg : Calls Try.prog 12 #[.agg (recCells b bt bp)] W _))
  have PA := Lib.hid (fun W (hW : Below w.heap.size w W) => (print_no ⟨at_, ap, rfl, la.keep hW⟩ hf hm : Calls Try.prog 13 #[.agg (recCells a at_ ap)] W _))
  obtain ⟨sB, eB, hpb⟩ := print_some (show IsRec w (recV b bt bp) b from ⟨bt, bp, rfl, lb⟩) hg
  have PB : Hid (∀ W, Below w.heap.size w W → Calls Try.prog 13 #[.agg (recCells b bt bp)] W fun e w' => e = .returned (.tuple #[.string sB, .int .i64 eB]) ∧ Below W.heap.size W w') := hpb
  clear hpb
  have hB : Below w.heap.size w ((w.alloc (.cells (recCells a at_ ap) 25)).alloc (.cells (recCells b bt bp) 25)) := ((Below.refl _ _).alloc (Nat.le_refl _) _).alloc (by simp) _
  have BA0 := (Blk.new w 25 (recCells a at_ ap)).alloc (.cells (recCells b bt bp) 25)
  have BB0 := Blk.new (w.alloc (.cells (recCells a at_ ap) 25)) 25 (recCells b bt bp)
  rw [World.size_alloc] at BB0
  clear la lb hf hg hm
  unfold recV
  go_enter Try.func8, Try.ntmps8
  go_wp2_with fail
  generalize (w.alloc (.cells (recCells a at_ ap) 25)).alloc (.cells (recCells b bt bp) 25) = w0 at *
  have BA := Lib.hid BA0
  have BB := Lib.hid BB0
  have HB := Lib.hid hB
  clear hB BA0 BB0
  refine (awake_any _).mono ?_
  rintro e w1 ⟨rfl, hb⟩
  have HB2 := Lib.hid (below2 HB.out hb)
  have bA := BA.out.keep hb BA.out.lt
  have bB := BB.out.keep hb BB.out.lt
  have BA2 := Lib.hid bA
  have BB2 := Lib.hid bB
  clear hb HB BA BB
  go_wp2_with (first
    | (refine wpList_load_rowG rfl 25 _ rfl w.heap.size rfl 25 _ (0, 0) _ bA Try.underlying25 rfl (by kernel_rfl) ?_)
    | (refine wpList_load_rowG rfl 25 _ rfl (w.heap.size + 1) rfl 25 _ (0, 0) _ bB Try.underlying25 rfl (by kernel_rfl) ?_))
  have BA := BA2
  have BB := BB2
  have HB := HB2
  clear bA bB BA2 BB2 HB2
  refine (FA.out _ HB.out).mono ?_
  rintro e w2 ⟨rfl, hb⟩
  have HB2 := Lib.hid (below2 HB.out hb)
  have bA := BA.out.keep hb BA.out.lt
  have bB := BB.out.keep hb BB.out.lt
  have BA2 := Lib.hid bA
  have BB2 := Lib.hid bB
  clear hb HB BA BB
  go_wp2_with (first
    | (refine wpList_load_rowG rfl 25 _ rfl w.heap.size rfl 25 _ (0, 0) _ bA Try.underlying25 rfl (by kernel_rfl) ?_)
    | (refine wpList_load_rowG rfl 25 _ rfl (w.heap.size + 1) rfl 25 _ (0, 0) _ bB Try.underlying25 rfl (by kernel_rfl) ?_))
  have BA := BA2
  have BB := BB2
  have HB := HB2
  clear bA bB BA2 BB2 HB2
  refine (FB.out _ HB.out).mono ?_
  rintro e w3 ⟨rfl, hb⟩
  have HB2 := Lib.hid (below2 HB.out hb)
  have bA := BA.out.keep hb BA.out.lt
  have bB := BB.out.keep hb BB.out.lt
  have BA2 := Lib.hid bA
  have BB2 := Lib.hid bB
  clear hb HB BA BB
  go_wp2_with (first
    | (refine wpList_load_rowG rfl 25 _ rfl w.heap.size rfl 25 _ (0, 0) _ bA Try.underlying25 rfl (by kernel_rfl) ?_)
    | (refine wpList_load_rowG rfl 25 _ rfl (w.heap.size + 1) rfl 25 _ (0, 0) _ bB Try.underlying25 rfl (by kernel_rfl) ?_))
  have BA := BA2
  have BB := BB2
  have HB := HB2
  clear bA bB BA2 BB2 HB2
  refine (PA.out _ HB.out).mono ?_
  rintro e w4 ⟨rfl, hb⟩
  have HB2 := Lib.hid (below2 HB.out hb)
  have bA := BA.out.keep hb BA.out.lt
  have bB := BB.out.keep hb BB.out.lt
  have BA2 := Lib.hid bA
  have BB2 := Lib.hid bB
  clear hb HB BA BB
  go_wp2_with (first
    | (refine wpList_load_rowG rfl 25 _ rfl w.heap.size rfl 25 _ (0, 0) _ bA Try.underlying25 rfl (by kernel_rfl) ?_)
    | (refine wpList_load_rowG rfl 25 _ rfl (w.heap.size + 1) rfl 25 _ (0, 0) _ bB Try.underlying25 rfl (by kernel_rfl) ?_))
  have BA := BA2
  have BB := BB2
  have HB := HB2
  clear bA bB BA2 BB2 HB2
  refine (PB.out _ HB.out).mono ?_
  rintro e w5 ⟨rfl, hb⟩
  have HB2 := Lib.hid (below2 HB.out hb)
  have bA := BA.out.keep hb BA.out.lt
  have bB := BB.out.keep hb BB.out.lt
  have BA2 := Lib.hid bA
  have BB2 := Lib.hid bB
  clear hb HB BA BB
  go_wp2_with (first
    | (refine wpList_load_rowG rfl 25 _ rfl w.heap.size rfl 25 _ (0, 0) _ bA Try.underlying25 rfl (by kernel_rfl) ?_)
    | (refine wpList_load_rowG rfl 25 _ rfl (w.heap.size + 1) rfl 25 _ (0, 0) _ bB Try.underlying25 rfl (by kernel_rfl) ?_))
  have BA := BA2
  have BB := BB2
  have HB := HB2
  clear bA bB BA2 BB2 HB2
  go_ret
  exact ⟨rfl, HB.out⟩

set_option maxRecDepth 100000 in
set_option maxHeartbeats 16000000 in
theorem recordOne_b {w : World} {va vb : Value} {a b : Rc} (ha : IsRec w va a) (hb : IsRec w vb b) (hf : Fit a) (hg : Fit b) (hm : May a) (hn : ¬ May b) :
    Calls Try.prog 8 #[va, vb] w fun e w' => e = .returned (.bool true) ∧ Below w.heap.size w w' := by
  obtain ⟨at_, ap, rfl, la⟩ := ha
  obtain ⟨bt, bp, rfl, lb⟩ := hb
  have FA := Lib.hid (fun W (hW : Below w.heap.size w W) => (few_yes ⟨at_, ap, rfl, la.keep hW⟩ hf : Calls Try.prog 12 #[.agg (recCells a at_ ap)] W _))
  have FB := Lib.hid (fun W (hW : Below w.heap.size w W) => (few_yes ⟨bt, bp, rfl, lb.keep hW⟩ hg : Calls Try.prog 12 #[.agg (recCells b bt bp)] W _))
  have PA := Lib.hid (fun W (hW : Below w.heap.size w W) => (print_yes ⟨at_, ap, rfl, la.keep hW⟩ hm : Calls Try.prog 13 #[.agg (recCells a at_ ap)] W _))
  have PB := Lib.hid (fun W (hW : Below w.heap.size w W) => (print_no ⟨bt, bp, rfl, lb.keep hW⟩ hg hn : Calls Try.prog 13 #[.agg (recCells b bt bp)] W _))
  have hB : Below w.heap.size w ((w.alloc (.cells (recCells a at_ ap) 25)).alloc (.cells (recCells b bt bp) 25)) := ((Below.refl _ _).alloc (Nat.le_refl _) _).alloc (by simp) _
  have BA0 := (Blk.new w 25 (recCells a at_ ap)).alloc (.cells (recCells b bt bp) 25)
  have BB0 := Blk.new (w.alloc (.cells (recCells a at_ ap) 25)) 25 (recCells b bt bp)
  rw [World.size_alloc] at BB0
  clear la lb hf hg hm hn
  unfold recV
  go_enter Try.func8, Try.ntmps8
  go_wp2_with fail
  generalize (w.alloc (.cells (recCells a at_ ap) 25)).alloc (.cells (recCells b bt bp) 25) = w0 at *
  have BA := Lib.hid BA0
  have BB := Lib.hid BB0
  have HB := Lib.hid hB
  clear hB BA0 BB0
  refine (awake_any _).mono ?_
  rintro e w1 ⟨rfl, hb⟩
  have HB2 := Lib.hid (below2 HB.out hb)
  have bA := BA.out.keep hb BA.out.lt
  have bB := BB.out.keep hb BB.out.lt
  have BA2 := Lib.hid bA
  have BB2 := Lib.hid bB
  clear hb HB BA BB
  go_wp2_with (first
    | (refine wpList_load_rowG rfl 25 _ rfl w.heap.size rfl 25 _ (0, 0) _ bA Try.underlying25 rfl (by kernel_rfl) ?_)
    | (refine wpList_load_rowG rfl 25 _ rfl (w.heap.size + 1) rfl 25 _ (0, 0) _ bB Try.underlying25 rfl (by kernel_rfl) ?_))
  have BA := BA2
  have BB := BB2
  have HB := HB2
  clear bA bB BA2 BB2 HB2
  refine (FA.out _ HB.out).mono ?_
  rintro e w2 ⟨rfl, hb⟩
  have HB2 := Lib.hid (below2 HB.out hb)
  have bA := BA.out.keep hb BA.out.lt
  have bB := BB.out.keep hb BB.out.lt
  have BA2 := Lib.hid bA
  have BB2 := Lib.hid bB
  clear hb HB BA BB
  go_wp2_with (first
    | (refine wpList_load_rowG rfl 25 _ rfl w.heap.size rfl 25 _ (0, 0) _ bA Try.underlying25 rfl (by kernel_rfl) ?_)
    | (refine wpList_load_rowG rfl 25 _ rfl (w.heap.size + 1) rfl 25 _ (0, 0) _ bB Try.underlying25 rfl (by kernel_rfl) ?_))
  have BA := BA2
  have BB := BB2
  have HB := HB2
  clear bA bB BA2 BB2 HB2
  refine (FB.out _ HB.out).mono ?_
  rintro e w3 ⟨rfl, hb⟩
  have HB2 := Lib.hid (below2 HB.out hb)
  have bA := BA.out.keep hb BA.out.lt
  have bB := BB.out.keep hb BB.out.lt
  have BA2 := Lib.hid bA
  have BB2 := Lib.hid bB
  clear hb HB BA BB
  go_wp2_with (first
    | (refine wpList_load_rowG rfl 25 _ rfl w.heap.size rfl 25 _ (0, 0) _ bA Try.underlying25 rfl (by kernel_rfl) ?_)
    | (refine wpList_load_rowG rfl 25 _ rfl (w.heap.size + 1) rfl 25 _ (0, 0) _ bB Try.underlying25 rfl (by kernel_rfl) ?_))
  have BA := BA2
  have BB := BB2
  have HB := HB2
  clear bA bB BA2 BB2 HB2
  refine (PA.out _ HB.out).mono ?_
  rintro e w4 ⟨rfl, hb⟩
  have HB2 := Lib.hid (below2 HB.out hb)
  have bA := BA.out.keep hb BA.out.lt
  have bB := BB.out.keep hb BB.out.lt
  have BA2 := Lib.hid bA
  have BB2 := Lib.hid bB
  clear hb HB BA BB
  go_wp2_with (first
    | (refine wpList_load_rowG rfl 25 _ rfl w.heap.size rfl 25 _ (0, 0) _ bA Try.underlying25 rfl (by kernel_rfl) ?_)
    | (refine wpList_load_rowG rfl 25 _ rfl (w.heap.size + 1) rfl 25 _ (0, 0) _ bB Try.underlying25 rfl (by kernel_rfl) ?_))
  have BA := BA2
  have BB := BB2
  have HB := HB2
  clear bA bB BA2 BB2 HB2
  refine (PB.out _ HB.out).mono ?_
  rintro e w5 ⟨rfl, hb⟩
  have HB2 := Lib.hid (below2 HB.out hb)
  have bA := BA.out.keep hb BA.out.lt
  have bB := BB.out.keep hb BB.out.lt
  have BA2 := Lib.hid bA
  have BB2 := Lib.hid bB
  clear hb HB BA BB
  go_wp2_with (first
    | (refine wpList_load_rowG rfl 25 _ rfl w.heap.size rfl 25 _ (0, 0) _ bA Try.underlying25 rfl (by kernel_rfl) ?_)
    | (refine wpList_load_rowG rfl 25 _ rfl (w.heap.size + 1) rfl 25 _ (0, 0) _ bB Try.underlying25 rfl (by kernel_rfl) ?_))
  have BA := BA2
  have BB := BB2
  have HB := HB2
  clear bA bB BA2 BB2 HB2
  go_ret
  exact ⟨rfl, HB.out⟩

set_option maxRecDepth 100000 in
set_option maxHeartbeats 16000000 in
theorem recordOne_both {w : World} {va vb : Value} {a b : Rc} (ha : IsRec w va a) (hb : IsRec w vb b) (hf : Fit a) (hg : Fit b) (hm : May a) (hn : May b) :
    Calls Try.prog 8 #[va, vb] w fun e w' => e = .returned (.bool true) ∧ Below w.heap.size w w' := by
  obtain ⟨at_, ap, rfl, la⟩ := ha
  obtain ⟨bt, bp, rfl, lb⟩ := hb
  have FA := Lib.hid (fun W (hW : Below w.heap.size w W) => (few_yes ⟨at_, ap, rfl, la.keep hW⟩ hf : Calls Try.prog 12 #[.agg (recCells a at_ ap)] W _))
  have FB := Lib.hid (fun W (hW : Below w.heap.size w W) => (few_yes ⟨bt, bp, rfl, lb.keep hW⟩ hg : Calls Try.prog 12 #[.agg (recCells b bt bp)] W _))
  have hst : ((⟨(lay a).toArray⟩ : ByteArray).toList == (⟨(lay b).toArray⟩ : ByteArray).toList) = decide (a = b) := by
    rw [bytes_eq]
    exact decide_eq_decide.2 (lay_eq hm hn)
  have PA := Lib.hid (fun W (hW : Below w.heap.size w W) => (print_yes ⟨at_, ap, rfl, la.keep hW⟩ hm : Calls Try.prog 13 #[.agg (recCells a at_ ap)] W _))
  have PB := Lib.hid (fun W (hW : Below w.heap.size w W) => (print_yes ⟨bt, bp, rfl, lb.keep hW⟩ hn : Calls Try.prog 13 #[.agg (recCells b bt bp)] W _))
  obtain ⟨q, hq⟩ : ∃ q, q = decide (a = b) := ⟨_, rfl⟩
  rw [← hq] at hst
  have SM := Lib.hid (fun W (hW : Below w.heap.size w W) => (same_any ⟨at_, ap, rfl, la.keep hW⟩ ⟨bt, bp, rfl, lb.keep hW⟩ q hq : Calls Try.prog 22 #[.agg (recCells a at_ ap), .agg (recCells b bt bp)] W _))
  generalize (⟨(lay a).toArray⟩ : ByteArray) = sa at *
  generalize (⟨(lay b).toArray⟩ : ByteArray) = sb at *
  have hB : Below w.heap.size w ((w.alloc (.cells (recCells a at_ ap) 25)).alloc (.cells (recCells b bt bp) 25)) := ((Below.refl _ _).alloc (Nat.le_refl _) _).alloc (by simp) _
  have BA0 := (Blk.new w 25 (recCells a at_ ap)).alloc (.cells (recCells b bt bp) 25)
  have BB0 := Blk.new (w.alloc (.cells (recCells a at_ ap) 25)) 25 (recCells b bt bp)
  rw [World.size_alloc] at BB0
  clear la lb hf hg hm hn hq
  unfold recV
  go_enter Try.func8, Try.ntmps8
  go_wp2_with fail
  generalize (w.alloc (.cells (recCells a at_ ap) 25)).alloc (.cells (recCells b bt bp) 25) = w0 at *
  have BA := Lib.hid BA0
  have BB := Lib.hid BB0
  have HB := Lib.hid hB
  clear hB BA0 BB0
  refine (awake_any _).mono ?_
  rintro e w1 ⟨rfl, hb⟩
  have HB2 := Lib.hid (below2 HB.out hb)
  have bA := BA.out.keep hb BA.out.lt
  have bB := BB.out.keep hb BB.out.lt
  have BA2 := Lib.hid bA
  have BB2 := Lib.hid bB
  clear hb HB BA BB
  go_wp2_with (first
    | (refine wpList_load_rowG rfl 25 _ rfl w.heap.size rfl 25 _ (0, 0) _ bA Try.underlying25 rfl (by kernel_rfl) ?_)
    | (refine wpList_load_rowG rfl 25 _ rfl (w.heap.size + 1) rfl 25 _ (0, 0) _ bB Try.underlying25 rfl (by kernel_rfl) ?_))
  have BA := BA2
  have BB := BB2
  have HB := HB2
  clear bA bB BA2 BB2 HB2
  refine (FA.out _ HB.out).mono ?_
  rintro e w2 ⟨rfl, hb⟩
  have HB2 := Lib.hid (below2 HB.out hb)
  have bA := BA.out.keep hb BA.out.lt
  have bB := BB.out.keep hb BB.out.lt
  have BA2 := Lib.hid bA
  have BB2 := Lib.hid bB
  clear hb HB BA BB
  go_wp2_with (first
    | (refine wpList_load_rowG rfl 25 _ rfl w.heap.size rfl 25 _ (0, 0) _ bA Try.underlying25 rfl (by kernel_rfl) ?_)
    | (refine wpList_load_rowG rfl 25 _ rfl (w.heap.size + 1) rfl 25 _ (0, 0) _ bB Try.underlying25 rfl (by kernel_rfl) ?_))
  have BA := BA2
  have BB := BB2
  have HB := HB2
  clear bA bB BA2 BB2 HB2
  refine (FB.out _ HB.out).mono ?_
  rintro e w3 ⟨rfl, hb⟩
  have HB2 := Lib.hid (below2 HB.out hb)
  have bA := BA.out.keep hb BA.out.lt
  have bB := BB.out.keep hb BB.out.lt
  have BA2 := Lib.hid bA
  have BB2 := Lib.hid bB
  clear hb HB BA BB
  go_wp2_with (first
    | (refine wpList_load_rowG rfl 25 _ rfl w.heap.size rfl 25 _ (0, 0) _ bA Try.underlying25 rfl (by kernel_rfl) ?_)
    | (refine wpList_load_rowG rfl 25 _ rfl (w.heap.size + 1) rfl 25 _ (0, 0) _ bB Try.underlying25 rfl (by kernel_rfl) ?_))
  have BA := BA2
  have BB := BB2
  have HB := HB2
  clear bA bB BA2 BB2 HB2
  refine (PA.out _ HB.out).mono ?_
  rintro e w4 ⟨rfl, hb⟩
  have HB2 := Lib.hid (below2 HB.out hb)
  have bA := BA.out.keep hb BA.out.lt
  have bB := BB.out.keep hb BB.out.lt
  have BA2 := Lib.hid bA
  have BB2 := Lib.hid bB
  clear hb HB BA BB
  go_wp2_with (first
    | (refine wpList_load_rowG rfl 25 _ rfl w.heap.size rfl 25 _ (0, 0) _ bA Try.underlying25 rfl (by kernel_rfl) ?_)
    | (refine wpList_load_rowG rfl 25 _ rfl (w.heap.size + 1) rfl 25 _ (0, 0) _ bB Try.underlying25 rfl (by kernel_rfl) ?_))
  have BA := BA2
  have BB := BB2
  have HB := HB2
  clear bA bB BA2 BB2 HB2
  refine (PB.out _ HB.out).mono ?_
  rintro e w5 ⟨rfl, hb⟩
  have HB2 := Lib.hid (below2 HB.out hb)
  have bA := BA.out.keep hb BA.out.lt
  have bB := BB.out.keep hb BB.out.lt
  have BA2 := Lib.hid bA
  have BB2 := Lib.hid bB
  clear hb HB BA BB
  go_wp2_with (first
    | (refine wpList_load_rowG rfl 25 _ rfl w.heap.size rfl 25 _ (0, 0) _ bA Try.underlying25 rfl (by kernel_rfl) ?_)
    | (refine wpList_load_rowG rfl 25 _ rfl (w.heap.size + 1) rfl 25 _ (0, 0) _ bB Try.underlying25 rfl (by kernel_rfl) ?_))
  have BA := BA2
  have BB := BB2
  have HB := HB2
  clear bA bB BA2 BB2 HB2
  refine (SM.out _ HB.out).mono ?_
  rintro e w6 ⟨rfl, hb⟩
  have HB2 := Lib.hid (below2 HB.out hb)
  have bA := BA.out.keep hb BA.out.lt
  have bB := BB.out.keep hb BB.out.lt
  have BA2 := Lib.hid bA
  have BB2 := Lib.hid bB
  clear hb HB BA BB
  go_wp2_with (first
    | (refine wpList_load_rowG rfl 25 _ rfl w.heap.size rfl 25 _ (0, 0) _ bA Try.underlying25 rfl (by kernel_rfl) ?_)
    | (refine wpList_load_rowG rfl 25 _ rfl (w.heap.size + 1) rfl 25 _ (0, 0) _ bB Try.underlying25 rfl (by kernel_rfl) ?_))
  have BA := BA2
  have BB := BB2
  have HB := HB2
  clear bA bB BA2 BB2 HB2
  go_ret
  exact ⟨rfl, HB.out⟩

theorem walkRecordOne (va : Value) (a : Rc) (vb : Value) (b : Rc) (w : World) (ha : IsRec w va a) (sa : Sized a) (hb : IsRec w vb b) (sb : Sized b) :
    Calls Try.prog 8 #[va, vb] w fun e w' => e = .returned (.bool true) ∧ Below w.heap.size w w' := by
  by_cases hf : Fit a
  · by_cases hg : Fit b
    · by_cases hm : May a
      · by_cases hn : May b
        · exact recordOne_both ha hb hf hg hm hn
        · exact recordOne_b ha hb hf hg hm hn
      · exact recordOne_a ha hb hf hg hm
    · exact recordOne_big2 ha hb hf sb hg
  · exact recordOne_big ha hb sa hf
end Go.Proofs.Ytaidcgbhkhdaiaa
