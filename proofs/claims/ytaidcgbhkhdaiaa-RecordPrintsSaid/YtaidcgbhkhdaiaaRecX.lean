/- Layer 4's statements: RecordPrints, walked. -/
import Derived.Test.YtaidcgbhkhdaiaaRecP
import Derived.Test.YtaidcgbhkhdaiaaRecW
namespace Go.Proofs.Ytaidcgbhkhdaiaa
open Go.RowKit

theorem refMay_any {w : World} {v : Value} {r : Rc} (hv : IsRec w v r) (hs : Sized r) (yes : Bool) (hy : yes = true ↔ May r) :
    Calls Try.prog 14 #[v] w fun e w' => e = .returned (.bool yes) ∧ Below w.heap.size w w' := by
  by_cases h1 : r.kind = 1
  · exact refMay_1 hv hs h1 yes hy
  by_cases h2 : r.kind = 2
  · exact refMay_2 hv hs h2 yes hy
  by_cases h3 : r.kind = 3
  · exact refMay_3 hv hs h3 yes hy
  by_cases h4 : r.kind = 4
  · exact refMay_4 hv hs h4 yes hy
  by_cases h5 : r.kind = 5
  · exact refMay_5 hv hs h5 yes hy
  by_cases h6 : r.kind = 6
  · exact refMay_6 hv hs h6 yes hy
  exact refMay_o hv hs h1 h2 h3 h4 h5 h6 yes hy

theorem refPrint_any {w : World} {v : Value} {r : Rc} (hv : IsRec w v r) (hm : May r) :
    Calls Try.prog 15 #[v] w fun e w' => e = .returned (.string ⟨(lay r).toArray⟩) ∧ Below w.heap.size w w' := by
  cases hm with
  | @upd t p pg o b a ht hn hp hs hb =>
    obtain ⟨_, _, ⟨h1, h2⟩, _⟩ := hs
    refine (refPrint_1 hv ⟨by show b.size ≤ 16; omega, by show a.size ≤ 16; omega⟩ rfl).mono ?_
    rintro e w' ⟨rfl, hB⟩
    refine ⟨?_, hB⟩
    congr 2
    exact bytes_eq (by simp [lay, Rc.upd, ByteArray.data_append, strI_list, strS_list])
  | @und t p n pg o a ht hn hp hx hs =>
    obtain ⟨_, _, ⟨h1, h2⟩, _⟩ := hs
    refine (refPrint_2 hv ⟨by show (0 : Nat) ≤ 16; omega, by show a.size ≤ 16; omega⟩ rfl).mono ?_
    rintro e w' ⟨rfl, hB⟩
    refine ⟨?_, hB⟩
    congr 2
    exact bytes_eq (by simp [lay, Rc.und, ByteArray.data_append, strI_list, strS_list])
  | @com k t p hk ht hn hp =>
    rcases hk with rfl | rfl
    · refine (refPrint_3 hv ⟨by show (0 : Nat) ≤ 16; omega, by show (0 : Nat) ≤ 16; omega⟩ rfl).mono ?_
      rintro e w' ⟨rfl, hB⟩
      refine ⟨?_, hB⟩
      congr 2
    · refine (refPrint_4 hv ⟨by show (0 : Nat) ≤ 16; omega, by show (0 : Nat) ≤ 16; omega⟩ rfl).mono ?_
      rintro e w' ⟨rfl, hB⟩
      refine ⟨?_, hB⟩
      congr 2
  | beg =>
    refine (refPrint_5 hv ⟨by show (0 : Nat) ≤ 16; omega, by show (0 : Nat) ≤ 16; omega⟩ rfl).mono ?_
    rintro e w' ⟨rfl, hB⟩
    refine ⟨?_, hB⟩
    congr 2
  | @tab b ts ps hb ht hp h3 h2 =>
    refine (refPrint_6 hv ⟨by show (0 : Nat) ≤ 16; omega, by show (0 : Nat) ≤ 16; omega⟩ ht hp rfl).mono ?_
    rintro e w' ⟨rfl, hB⟩
    refine ⟨?_, hB⟩
    congr 3

set_option maxRecDepth 100000 in
set_option maxHeartbeats 16000000 in
theorem recordPrints_big {w : World} {va : Value} {a : Rc} (ha : IsRec w va a) (sa : Sized a) (hf : ¬ Fit a) :
    Calls Try.prog 3 #[va] w fun e w' => e = .returned (.bool true) ∧ Below w.heap.size w w' := by
  obtain ⟨at_, ap, rfl, la⟩ := ha
  have FA := Lib.hid (fun W (hW : Below w.heap.size w W) => (few_no ⟨at_, ap, rfl, la.keep hW⟩ sa hf : Calls Try.prog 12 #[.agg (recCells a at_ ap)] W _))
  have hB : Below w.heap.size w (w.alloc (.cells (recCells a at_ ap) 25)) := (Below.refl _ _).alloc (Nat.le_refl _) _
  have BA0 := Blk.new w 25 (recCells a at_ ap)
  clear la sa hf
  unfold recV
  go_enter Try.func3, Try.ntmps3
  go_wp2_with fail
  generalize (w.alloc (.cells (recCells a at_ ap) 25)) = w0 at *
  have BA := Lib.hid BA0
  have HB := Lib.hid hB
  clear hB BA0
  refine (awake_any _).mono ?_
  rintro e w1 ⟨rfl, hb⟩
  have HB2 := Lib.hid (below2 HB.out hb)
  have bA := BA.out.keep hb BA.out.lt
  have BA2 := Lib.hid bA
  clear hb HB BA
  go_wp2_with (refine wpList_load_rowG rfl 25 _ rfl w.heap.size rfl 25 _ (0, 0) _ bA Try.underlying25 rfl (by kernel_rfl) ?_)
  have BA := BA2
  have HB := HB2
  clear bA BA2 HB2
  refine (FA.out _ HB.out).mono ?_
  rintro e w2 ⟨rfl, hb⟩
  have HB2 := Lib.hid (below2 HB.out hb)
  have bA := BA.out.keep hb BA.out.lt
  have BA2 := Lib.hid bA
  clear hb HB BA
  go_wp2_with (refine wpList_load_rowG rfl 25 _ rfl w.heap.size rfl 25 _ (0, 0) _ bA Try.underlying25 rfl (by kernel_rfl) ?_)
  have BA := BA2
  have HB := HB2
  clear bA BA2 HB2
  refine (awake_any _).mono ?_
  rintro e w3 ⟨rfl, hb⟩
  have HB2 := Lib.hid (below2 HB.out hb)
  have bA := BA.out.keep hb BA.out.lt
  have BA2 := Lib.hid bA
  clear hb HB BA
  go_wp2_with (refine wpList_load_rowG rfl 25 _ rfl w.heap.size rfl 25 _ (0, 0) _ bA Try.underlying25 rfl (by kernel_rfl) ?_)
  have BA := BA2
  have HB := HB2
  clear bA BA2 HB2
  go_ret
  exact ⟨rfl, HB.out⟩

set_option maxRecDepth 100000 in
set_option maxHeartbeats 16000000 in
theorem recordPrints_no {w : World} {va : Value} {a : Rc} (ha : IsRec w va a) (sa : Sized a) (hf : Fit a) (hm : ¬ May a) :
    Calls Try.prog 3 #[va] w fun e w' => e = .returned (.bool true) ∧ Below w.heap.size w w' := by
  obtain ⟨at_, ap, rfl, la⟩ := ha
  have FA := Lib.hid (fun W (hW : Below w.heap.size w W) => (few_yes ⟨at_, ap, rfl, la.keep hW⟩ hf : Calls Try.prog 12 #[.agg (recCells a at_ ap)] W _))
  have PA := Lib.hid (fun W (hW : Below w.heap.size w W) => (print_no ⟨at_, ap, rfl, la.keep hW⟩ hf hm : Calls Try.prog 13 #[.agg (recCells a at_ ap)] W _))
  have MA := Lib.hid (fun W (hW : Below w.heap.size w W) => (refMay_any ⟨at_, ap, rfl, la.keep hW⟩ sa false (by simp [hm]) : Calls Try.prog 14 #[.agg (recCells a at_ ap)] W _))
  have hB : Below w.heap.size w (w.alloc (.cells (recCells a at_ ap) 25)) := (Below.refl _ _).alloc (Nat.le_refl _) _
  have BA0 := Blk.new w 25 (recCells a at_ ap)
  clear la sa hf hm
  unfold recV
  go_enter Try.func3, Try.ntmps3
  go_wp2_with fail
  generalize (w.alloc (.cells (recCells a at_ ap) 25)) = w0 at *
  have BA := Lib.hid BA0
  have HB := Lib.hid hB
  clear hB BA0
  refine (awake_any _).mono ?_
  rintro e w1 ⟨rfl, hb⟩
  have HB2 := Lib.hid (below2 HB.out hb)
  have bA := BA.out.keep hb BA.out.lt
  have BA2 := Lib.hid bA
  clear hb HB BA
  go_wp2_with (refine wpList_load_rowG rfl 25 _ rfl w.heap.size rfl 25 _ (0, 0) _ bA Try.underlying25 rfl (by kernel_rfl) ?_)
  have BA := BA2
  have HB := HB2
  clear bA BA2 HB2
  refine (FA.out _ HB.out).mono ?_
  rintro e w2 ⟨rfl, hb⟩
  have HB2 := Lib.hid (below2 HB.out hb)
  have bA := BA.out.keep hb BA.out.lt
  have BA2 := Lib.hid bA
  clear hb HB BA
  go_wp2_with (refine wpList_load_rowG rfl 25 _ rfl w.heap.size rfl 25 _ (0, 0) _ bA Try.underlying25 rfl (by kernel_rfl) ?_)
  have BA := BA2
  have HB := HB2
  clear bA BA2 HB2
  refine (PA.out _ HB.out).mono ?_
  rintro e w3 ⟨rfl, hb⟩
  have HB2 := Lib.hid (below2 HB.out hb)
  have bA := BA.out.keep hb BA.out.lt
  have BA2 := Lib.hid bA
  clear hb HB BA
  go_wp2_with (refine wpList_load_rowG rfl 25 _ rfl w.heap.size rfl 25 _ (0, 0) _ bA Try.underlying25 rfl (by kernel_rfl) ?_)
  have BA := BA2
  have HB := HB2
  clear bA BA2 HB2
  refine (MA.out _ HB.out).mono ?_
  rintro e w4 ⟨rfl, hb⟩
  have HB2 := Lib.hid (below2 HB.out hb)
  have bA := BA.out.keep hb BA.out.lt
  have BA2 := Lib.hid bA
  clear hb HB BA
  go_wp2_with (refine wpList_load_rowG rfl 25 _ rfl w.heap.size rfl 25 _ (0, 0) _ bA Try.underlying25 rfl (by kernel_rfl) ?_)
  have BA := BA2
  have HB := HB2
  clear bA BA2 HB2
  go_ret
  exact ⟨rfl, HB.out⟩

theorem may_small {r : Rc} (h : May r) : r.after.size ≤ 16 ∧ r.txns.length ≤ 4 ∧ r.pages.length ≤ 8 := by
  cases h with
  | @upd t p pg o b a ht hn hp hs hb =>
    obtain ⟨_, _, ⟨h1, h2⟩, _⟩ := hs
    exact ⟨h2, Nat.zero_le _, Nat.zero_le _⟩
  | @und t p n pg o a ht hn hp hx hs =>
    obtain ⟨_, _, ⟨h1, h2⟩, _⟩ := hs
    exact ⟨h2, Nat.zero_le _, Nat.zero_le _⟩
  | @com k t p hk ht hn hp => exact ⟨Nat.zero_le _, Nat.zero_le _, Nat.zero_le _⟩
  | beg => exact ⟨Nat.zero_le _, Nat.zero_le _, Nat.zero_le _⟩
  | @tab b ts ps hb ht hp h3 h2 => exact ⟨Nat.zero_le _, ht, hp⟩
theorem lay_short {r : Rc} (h : May r) : (lay r).length ≤ 112 := by
  obtain ⟨h1, h2, h3⟩ := may_small h
  rcases lay_long h with ⟨hk, hl⟩ | ⟨hk, hl⟩ | ⟨hk, hl⟩ | ⟨hk, hl⟩ | ⟨hk, hl⟩ | ⟨hk, hl⟩ <;> omega

set_option maxRecDepth 100000 in
set_option maxHeartbeats 16000000 in
theorem recordPrints_yes {w : World} {va : Value} {a : Rc} (ha : IsRec w va a) (sa : Sized a) (hm : May a) :
    Calls Try.prog 3 #[va] w fun e w' => e = .returned (.bool true) ∧ Below w.heap.size w w' := by
  obtain ⟨at_, ap, rfl, la⟩ := ha
  have hff := hm.fit
  have FA := Lib.hid (fun W (hW : Below w.heap.size w W) => (few_yes ⟨at_, ap, rfl, la.keep hW⟩ hff : Calls Try.prog 12 #[.agg (recCells a at_ ap)] W _))
  have PA := Lib.hid (fun W (hW : Below w.heap.size w W) => (print_yes ⟨at_, ap, rfl, la.keep hW⟩ hm : Calls Try.prog 13 #[.agg (recCells a at_ ap)] W _))
  have MA := Lib.hid (fun W (hW : Below w.heap.size w W) => (refMay_any ⟨at_, ap, rfl, la.keep hW⟩ sa true (by simp [hm]) : Calls Try.prog 14 #[.agg (recCells a at_ ap)] W _))
  have RA := Lib.hid (fun W (hW : Below w.heap.size w W) => (refPrint_any ⟨at_, ap, rfl, la.keep hW⟩ hm : Calls Try.prog 15 #[.agg (recCells a at_ ap)] W _))
  have hsz : (⟨(lay a).toArray⟩ : ByteArray).size = (lay a).length := by simp [ByteArray.size]
  have hll : ((⟨(lay a).toArray⟩ : ByteArray).size : Int) ≤ 112 := by
    rw [hsz]
    have := lay_short hm
    omega
  have hll2 : decide (((⟨(lay a).toArray⟩ : ByteArray).size : Int) ≤ 112) = true := by simpa using hll
  clear hsz
  generalize (⟨(lay a).toArray⟩ : ByteArray) = s at *
  have hB : Below w.heap.size w (w.alloc (.cells (recCells a at_ ap) 25)) := (Below.refl _ _).alloc (Nat.le_refl _) _
  have BA0 := Blk.new w 25 (recCells a at_ ap)
  clear la sa hm hff
  unfold recV
  go_enter Try.func3, Try.ntmps3
  go_wp2_with fail
  generalize (w.alloc (.cells (recCells a at_ ap) 25)) = w0 at *
  have BA := Lib.hid BA0
  have HB := Lib.hid hB
  clear hB BA0
  refine (awake_any _).mono ?_
  rintro e w1 ⟨rfl, hb⟩
  have HB2 := Lib.hid (below2 HB.out hb)
  have bA := BA.out.keep hb BA.out.lt
  have BA2 := Lib.hid bA
  clear hb HB BA
  go_wp2_with (refine wpList_load_rowG rfl 25 _ rfl w.heap.size rfl 25 _ (0, 0) _ bA Try.underlying25 rfl (by kernel_rfl) ?_)
  have BA := BA2
  have HB := HB2
  clear bA BA2 HB2
  refine (FA.out _ HB.out).mono ?_
  rintro e w2 ⟨rfl, hb⟩
  have HB2 := Lib.hid (below2 HB.out hb)
  have bA := BA.out.keep hb BA.out.lt
  have BA2 := Lib.hid bA
  clear hb HB BA
  go_wp2_with (refine wpList_load_rowG rfl 25 _ rfl w.heap.size rfl 25 _ (0, 0) _ bA Try.underlying25 rfl (by kernel_rfl) ?_)
  have BA := BA2
  have HB := HB2
  clear bA BA2 HB2
  refine (PA.out _ HB.out).mono ?_
  rintro e w3 ⟨rfl, hb⟩
  have HB2 := Lib.hid (below2 HB.out hb)
  have bA := BA.out.keep hb BA.out.lt
  have BA2 := Lib.hid bA
  clear hb HB BA
  go_wp2_with (refine wpList_load_rowG rfl 25 _ rfl w.heap.size rfl 25 _ (0, 0) _ bA Try.underlying25 rfl (by kernel_rfl) ?_)
  have BA := BA2
  have HB := HB2
  clear bA BA2 HB2
  refine (MA.out _ HB.out).mono ?_
  rintro e w4 ⟨rfl, hb⟩
  have HB2 := Lib.hid (below2 HB.out hb)
  have bA := BA.out.keep hb BA.out.lt
  have BA2 := Lib.hid bA
  clear hb HB BA
  go_wp2_with (refine wpList_load_rowG rfl 25 _ rfl w.heap.size rfl 25 _ (0, 0) _ bA Try.underlying25 rfl (by kernel_rfl) ?_)
  have BA := BA2
  have HB := HB2
  clear bA BA2 HB2
  refine (RA.out _ HB.out).mono ?_
  rintro e w5 ⟨rfl, hb⟩
  have HB2 := Lib.hid (below2 HB.out hb)
  have bA := BA.out.keep hb BA.out.lt
  have BA2 := Lib.hid bA
  clear hb HB BA
  go_wp2_with (refine wpList_load_rowG rfl 25 _ rfl w.heap.size rfl 25 _ (0, 0) _ bA Try.underlying25 rfl (by kernel_rfl) ?_)
  have BA := BA2
  have HB := HB2
  clear bA BA2 HB2
  go_ret
  exact ⟨rfl, HB.out⟩

theorem walkRecordPrints (va : Value) (a : Rc) (w : World) (ha : IsRec w va a) (sa : Sized a) :
    Calls Try.prog 3 #[va] w fun e w' => e = .returned (.bool true) ∧ Below w.heap.size w w' := by
  by_cases hf : Fit a
  · by_cases hm : May a
    · exact recordPrints_yes ha sa hm
    · exact recordPrints_no ha sa hf hm
  · exact recordPrints_big ha sa hf
end Go.Proofs.Ytaidcgbhkhdaiaa
