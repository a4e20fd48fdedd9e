/- Layer 4's statements: RecordBack, walked. -/
import Derived.Test.YtaidcgbhkhdaiaaRecM2
import Derived.Test.YtaidcgbhkhdaiaaRecK
import Derived.Test.YtaidcgbhkhdaiaaOpenRec
namespace Go.Proofs.Ytaidcgbhkhdaiaa
open Go.RowKit

/-- 'int(uint(i) % m)'. -/
def cutN (i m : Int) : Nat := (IntKind.u64.wrap i % m).toNat
theorem cutN_lt (i m : Int) (hm : 0 < m) : (cutN i m : Int) < m := by
  have h1 := Int.emod_lt_of_pos (IntKind.u64.wrap i) hm
  have h2 := Int.emod_nonneg (IntKind.u64.wrap i) (Int.ne_of_gt hm)
  unfold cutN; omega
theorem cut_eq (i m : Int) (hm : 0 < m) (hm2 : m ≤ 100000) : wrap64 ((IntKind.u64.wrap i).tmod m) = (cutN i m : Int) := by
  have h1 := Int.emod_lt_of_pos (IntKind.u64.wrap i) hm
  have h2 := Int.emod_nonneg (IntKind.u64.wrap i) (Int.ne_of_gt hm)
  rw [Int.tmod_eq_emod_of_nonneg (by rw [IntKind.wrap_u64]; omega)]
  unfold cutN
  generalize IntKind.u64.wrap i % m = x at *
  unfold wrap64
  omega
/-- What is cut off is none. -/
theorem recP_cut {r : Rc} (hm : May r) {m : Nat} (h : m < (lay r).length) : recP ((lay r).take m) = none := by
  cases hp : recP ((lay r).take m) with
  | none => rfl
  | some x =>
    obtain ⟨x, l⟩ := x
    obtain ⟨hx, hd⟩ := recP_some hp
    have h1 : lay x ++ (l ++ (lay r).drop m) = lay r ++ [] := by
      rw [← List.append_assoc, ← hd, List.take_append_drop, List.append_nil]
    have h2 := (lay_inj hx hm h1).2
    have h3 := congrArg List.length h2
    rw [List.length_append, List.length_drop] at h3
    simp at h3
    omega

set_option maxRecDepth 100000 in
set_option maxHeartbeats 16000000 in
theorem recordBack_big {w : World} {va : Value} {a : Rc} (x y : ByteArray) (ct : Int) (ha : IsRec w va a) (_hx : x.size ≤ maxLen) (_hy : y.size ≤ maxLen) (sa : Sized a) (hf : ¬ Fit a) :
    Calls Try.prog 5 #[va, .string x, .string y, .int .i64 ct] w fun e w' => e = .returned (.bool true) ∧ Below w.heap.size w w' := by
  obtain ⟨at_, ap, rfl, la⟩ := ha
  unfold maxLen at _hx _hy
  have FA := Lib.hid (fun W (hW : Below w.heap.size w W) => (few_no ⟨at_, ap, rfl, la.keep hW⟩ sa hf : Calls Try.prog 12 #[.agg (recCells a at_ ap)] W _))
  have hB : Below w.heap.size w (w.alloc (.cells (recCells a at_ ap) 25)) := (Below.refl _ _).alloc (Nat.le_refl _) _
  have BA0 := Blk.new w 25 (recCells a at_ ap)
  clear la sa hf
  unfold recV
  go_enter Try.func5, Try.ntmps5
  go_wp2_with fail
  generalize (w.alloc (.cells (recCells a at_ ap) 25)) = w0 at *
  have BA := Lib.hid BA0
  have HB := Lib.hid hB
  clear hB BA0
  refine (awake_any _).mono ?_
  rintro e w1 ⟨rfl, hb⟩
  have HB2 := Lib.hid (below2 HB.out hb)
  have bA := BA.out.keep hb BA.out.lt
  have BA2 := Lib.hid bA
  clear hb HB BA
  go_wp2_with (refine wpList_load_rowG rfl 25 _ rfl w.heap.size rfl 25 _ (0, 0) _ bA Try.underlying25 rfl (by kernel_rfl) ?_)
  have BA := BA2
  have HB := HB2
  clear bA BA2 HB2
  refine (FA.out _ HB.out).mono ?_
  rintro e w2 ⟨rfl, hb⟩
  have HB2 := Lib.hid (below2 HB.out hb)
  have bA := BA.out.keep hb BA.out.lt
  have BA2 := Lib.hid bA
  clear hb HB BA
  go_wp2_with (refine wpList_load_rowG rfl 25 _ rfl w.heap.size rfl 25 _ (0, 0) _ bA Try.underlying25 rfl (by kernel_rfl) ?_)
  have BA := BA2
  have HB := HB2
  clear bA BA2 HB2
  refine (awake_any _).mono ?_
  rintro e w3 ⟨rfl, hb⟩
  have HB2 := Lib.hid (below2 HB.out hb)
  have bA := BA.out.keep hb BA.out.lt
  have BA2 := Lib.hid bA
  clear hb HB BA
  go_wp2_with (refine wpList_load_rowG rfl 25 _ rfl w.heap.size rfl 25 _ (0, 0) _ bA Try.underlying25 rfl (by kernel_rfl) ?_)
  have BA := BA2
  have HB := HB2
  clear bA BA2 HB2
  go_ret
  exact ⟨rfl, HB.out⟩

set_option maxRecDepth 100000 in
set_option maxHeartbeats 16000000 in
theorem recordBack_ahead {w : World} {va : Value} {a : Rc} (x y : ByteArray) (ct : Int) (ha : IsRec w va a) (_hx : x.size ≤ maxLen) (_hy : y.size ≤ maxLen) (hf : Fit a) (h1 : (200 : Int) < x.size) :
    Calls Try.prog 5 #[va, .string x, .string y, .int .i64 ct] w fun e w' => e = .returned (.bool true) ∧ Below w.heap.size w w' := by
  obtain ⟨at_, ap, rfl, la⟩ := ha
  unfold maxLen at _hx _hy
  have FA := Lib.hid (fun W (hW : Below w.heap.size w W) => (few_yes ⟨at_, ap, rfl, la.keep hW⟩ hf : Calls Try.prog 12 #[.agg (recCells a at_ ap)] W _))
  have hB : Below w.heap.size w (w.alloc (.cells (recCells a at_ ap) 25)) := (Below.refl _ _).alloc (Nat.le_refl _) _
  have BA0 := Blk.new w 25 (recCells a at_ ap)
  clear la hf
  unfold recV
  go_enter Try.func5, Try.ntmps5
  go_wp2_with fail
  generalize (w.alloc (.cells (recCells a at_ ap) 25)) = w0 at *
  have BA := Lib.hid BA0
  have HB := Lib.hid hB
  clear hB BA0
  refine (awake_any _).mono ?_
  rintro e w1 ⟨rfl, hb⟩
  have HB2 := Lib.hid (below2 HB.out hb)
  have bA := BA.out.keep hb BA.out.lt
  have BA2 := Lib.hid bA
  clear hb HB BA
  go_wp2_with (refine wpList_load_rowG rfl 25 _ rfl w.heap.size rfl 25 _ (0, 0) _ bA Try.underlying25 rfl (by kernel_rfl) ?_)
  have BA := BA2
  have HB := HB2
  clear bA BA2 HB2
  refine (FA.out _ HB.out).mono ?_
  rintro e w2 ⟨rfl, hb⟩
  have HB2 := Lib.hid (below2 HB.out hb)
  have bA := BA.out.keep hb BA.out.lt
  have BA2 := Lib.hid bA
  clear hb HB BA
  go_wp2_with (refine wpList_load_rowG rfl 25 _ rfl w.heap.size rfl 25 _ (0, 0) _ bA Try.underlying25 rfl (by kernel_rfl) ?_)
  have BA := BA2
  have HB := HB2
  clear bA BA2 HB2
  refine (awake_any _).mono ?_
  rintro e w3 ⟨rfl, hb⟩
  have HB2 := Lib.hid (below2 HB.out hb)
  have bA := BA.out.keep hb BA.out.lt
  have BA2 := Lib.hid bA
  clear hb HB BA
  go_wp2_with (refine wpList_load_rowG rfl 25 _ rfl w.heap.size rfl 25 _ (0, 0) _ bA Try.underlying25 rfl (by kernel_rfl) ?_)
  have BA := BA2
  have HB := HB2
  clear bA BA2 HB2
  go_ret
  exact ⟨rfl, HB.out⟩

set_option maxRecDepth 100000 in
set_option maxHeartbeats 16000000 in
theorem recordBack_behind {w : World} {va : Value} {a : Rc} (x y : ByteArray) (ct : Int) (ha : IsRec w va a) (_hx : x.size ≤ maxLen) (_hy : y.size ≤ maxLen) (hf : Fit a) (h1 : (x.size : Int) ≤ 200) (h2 : (200 : Int) < y.size) :
    Calls Try.prog 5 #[va, .string x, .string y, .int .i64 ct] w fun e w' => e = .returned (.bool true) ∧ Below w.heap.size w w' := by
  obtain ⟨at_, ap, rfl, la⟩ := ha
  unfold maxLen at _hx _hy
  have FA := Lib.hid (fun W (hW : Below w.heap.size w W) => (few_yes ⟨at_, ap, rfl, la.keep hW⟩ hf : Calls Try.prog 12 #[.agg (recCells a at_ ap)] W _))
  have hB : Below w.heap.size w (w.alloc (.cells (recCells a at_ ap) 25)) := (Below.refl _ _).alloc (Nat.le_refl _) _
  have BA0 := Blk.new w 25 (recCells a at_ ap)
  clear la hf
  unfold recV
  go_enter Try.func5, Try.ntmps5
  go_wp2_with fail
  generalize (w.alloc (.cells (recCells a at_ ap) 25)) = w0 at *
  have BA := Lib.hid BA0
  have HB := Lib.hid hB
  clear hB BA0
  refine (awake_any _).mono ?_
  rintro e w1 ⟨rfl, hb⟩
  have HB2 := Lib.hid (below2 HB.out hb)
  have bA := BA.out.keep hb BA.out.lt
  have BA2 := Lib.hid bA
  clear hb HB BA
  go_wp2_with (refine wpList_load_rowG rfl 25 _ rfl w.heap.size rfl 25 _ (0, 0) _ bA Try.underlying25 rfl (by kernel_rfl) ?_)
  have BA := BA2
  have HB := HB2
  clear bA BA2 HB2
  refine (FA.out _ HB.out).mono ?_
  rintro e w2 ⟨rfl, hb⟩
  have HB2 := Lib.hid (below2 HB.out hb)
  have bA := BA.out.keep hb BA.out.lt
  have BA2 := Lib.hid bA
  clear hb HB BA
  go_wp2_with (refine wpList_load_rowG rfl 25 _ rfl w.heap.size rfl 25 _ (0, 0) _ bA Try.underlying25 rfl (by kernel_rfl) ?_)
  have BA := BA2
  have HB := HB2
  clear bA BA2 HB2
  refine (awake_any _).mono ?_
  rintro e w3 ⟨rfl, hb⟩
  have HB2 := Lib.hid (below2 HB.out hb)
  have bA := BA.out.keep hb BA.out.lt
  have BA2 := Lib.hid bA
  clear hb HB BA
  go_wp2_with (refine wpList_load_rowG rfl 25 _ rfl w.heap.size rfl 25 _ (0, 0) _ bA Try.underlying25 rfl (by kernel_rfl) ?_)
  have BA := BA2
  have HB := HB2
  clear bA BA2 HB2
  go_ret
  exact ⟨rfl, HB.out⟩

set_option maxRecDepth 100000 in
set_option maxHeartbeats 16000000 in
theorem recordBack_no {w : World} {va : Value} {a : Rc} (x y : ByteArray) (ct : Int) (ha : IsRec w va a) (_hx : x.size ≤ maxLen) (_hy : y.size ≤ maxLen) (hf : Fit a) (h1 : (x.size : Int) ≤ 200) (h2 : (y.size : Int) ≤ 200) (hm : ¬ May a) :
    Calls Try.prog 5 #[va, .string x, .string y, .int .i64 ct] w fun e w' => e = .returned (.bool true) ∧ Below w.heap.size w w' := by
  obtain ⟨at_, ap, rfl, la⟩ := ha
  unfold maxLen at _hx _hy
  have FA := Lib.hid (fun W (hW : Below w.heap.size w W) => (few_yes ⟨at_, ap, rfl, la.keep hW⟩ hf : Calls Try.prog 12 #[.agg (recCells a at_ ap)] W _))
  have PA := Lib.hid (fun W (hW : Below w.heap.size w W) => (print_no ⟨at_, ap, rfl, la.keep hW⟩ hf hm : Calls Try.prog 13 #[.agg (recCells a at_ ap)] W _))
  have hB : Below w.heap.size w (w.alloc (.cells (recCells a at_ ap) 25)) := (Below.refl _ _).alloc (Nat.le_refl _) _
  have BA0 := Blk.new w 25 (recCells a at_ ap)
  clear la hf hm
  unfold recV
  go_enter Try.func5, Try.ntmps5
  go_wp2_with fail
  generalize (w.alloc (.cells (recCells a at_ ap) 25)) = w0 at *
  have BA := Lib.hid BA0
  have HB := Lib.hid hB
  clear hB BA0
  refine (awake_any _).mono ?_
  rintro e w1 ⟨rfl, hb⟩
  have HB2 := Lib.hid (below2 HB.out hb)
  have bA := BA.out.keep hb BA.out.lt
  have BA2 := Lib.hid bA
  clear hb HB BA
  go_wp2_with (refine wpList_load_rowG rfl 25 _ rfl w.heap.size rfl 25 _ (0, 0) _ bA Try.underlying25 rfl (by kernel_rfl) ?_)
  have BA := BA2
  have HB := HB2
  clear bA BA2 HB2
  refine (FA.out _ HB.out).mono ?_
  rintro e w2 ⟨rfl, hb⟩
  have HB2 := Lib.hid (below2 HB.out hb)
  have bA := BA.out.keep hb BA.out.lt
  have BA2 := Lib.hid bA
  clear hb HB BA
  go_wp2_with (refine wpList_load_rowG rfl 25 _ rfl w.heap.size rfl 25 _ (0, 0) _ bA Try.underlying25 rfl (by kernel_rfl) ?_)
  have BA := BA2
  have HB := HB2
  clear bA BA2 HB2
  refine (PA.out _ HB.out).mono ?_
  rintro e w3 ⟨rfl, hb⟩
  have HB2 := Lib.hid (below2 HB.out hb)
  have bA := BA.out.keep hb BA.out.lt
  have BA2 := Lib.hid bA
  clear hb HB BA
  go_wp2_with (refine wpList_load_rowG rfl 25 _ rfl w.heap.size rfl 25 _ (0, 0) _ bA Try.underlying25 rfl (by kernel_rfl) ?_)
  have BA := BA2
  have HB := HB2
  clear bA BA2 HB2
  go_ret
  exact ⟨rfl, HB.out⟩

set_option maxRecDepth 100000 in
set_option maxHeartbeats 16000000 in
theorem recordBack_yes {w : World} {va : Value} {a : Rc} (x y : ByteArray) (ct : Int) (ha : IsRec w va a) (_hx : x.size ≤ maxLen) (_hy : y.size ≤ maxLen) (h1 : (x.size : Int) ≤ 200) (h2 : (y.size : Int) ≤ 200) (hm : May a) :
    Calls Try.prog 5 #[va, .string x, .string y, .int .i64 ct] w fun e w' => e = .returned (.bool true) ∧ Below w.heap.size w w' := by
  obtain ⟨at_, ap, rfl, la⟩ := ha
  unfold maxLen at _hx _hy
  have hf := hm.fit
  have FA := Lib.hid (fun W (hW : Below w.heap.size w W) => (few_yes ⟨at_, ap, rfl, la.keep hW⟩ hf : Calls Try.prog 12 #[.agg (recCells a at_ ap)] W _))
  have PA := Lib.hid (fun W (hW : Below w.heap.size w W) => (print_yes ⟨at_, ap, rfl, la.keep hW⟩ hm : Calls Try.prog 13 #[.agg (recCells a at_ ap)] W _))
  have SM : Hid (∀ W v, Below w.heap.size w W → IsRec W v a → Calls Try.prog 20 #[v, .agg (recCells a at_ ap)] W fun e w' => e = .returned (.bool true) ∧ Below W.heap.size W w') := fun W v hW hv => refSame_any hv ⟨at_, ap, rfl, la.keep hW⟩ true (by simp)
  have hlen := lay_len hf
  have hpos : 0 < (lay a).length := by unfold lay; simp
  have hsz : (⟨(lay a).toArray⟩ : ByteArray).size = (lay a).length := by simp [ByteArray.size]
  have hdat : (x ++ ⟨(lay a).toArray⟩ ++ y).data.toList = x.data.toList ++ (lay a ++ y.data.toList) := by
    simp only [ByteArray.data_append, Array.toList_append, List.append_assoc]
  have hall : (x ++ ⟨(lay a).toArray⟩ ++ y).size = x.size + (lay a).length + y.size := by
    rw [ByteArray.size_append, ByteArray.size_append, hsz]
  have hr1 : readR (x ++ ⟨(lay a).toArray⟩ ++ y) (x.size : Int) = (a, ((x.size : Int) + ((⟨(lay a).toArray⟩ : ByteArray).size : Int)), 0) := by
    unfold readR
    rw [if_neg (by rw [hall]; omega), Int.toNat_natCast, hdat, show x.size = x.data.toList.length from rfl, List.drop_left' rfl, recP_lay hm]
    show (a, ((x ++ ⟨(lay a).toArray⟩ ++ y).size : Int) - (y.data.toList.length : Int), (0 : Int)) = _
    rw [hall, hsz, show y.data.toList.length = y.size from rfl, show x.data.toList.length = x.size from rfl, show (((x.size + (lay a).length + y.size : Nat) : Int) - (y.size : Int)) = (x.size : Int) + ((lay a).length : Int) from by omega]
  have hcl := cutN_lt ct (lay a).length (by omega)
  have hct := cut_eq ct (lay a).length (by omega) (by omega)
  generalize hmm : cutN ct (lay a).length = m at *
  rw [← hsz] at hct
  have hr2 : readR ((⟨(lay a).toArray⟩ : ByteArray).extract 0 m) 0 = (.nil, 0, 3) := by
    unfold readR
    rw [if_neg (by omega)]
    have e : ((⟨(lay a).toArray⟩ : ByteArray).extract 0 m).data.toList = (lay a).take m := by
      rw [ByteArray.data_extract, Array.toList_extract, List.extract_eq_take_drop]
      simp
    show readOut _ (recP (List.drop (0 : Int).toNat _)) = _
    rw [e]
    simp only [Int.toNat_zero, List.drop_zero]
    rw [recP_cut hm (by omega)]
    rfl
  have R1 := Lib.hid (fun W => rdRead_as _ _ W hr1 (by rw [hall]; unfold maxLen; omega))
  have R2 := Lib.hid (fun W => rdRead_as _ _ W hr2 (by rw [ByteArray.size_extract]; unfold maxLen; omega))
  have g1 : (0 : Int) < ((⟨(lay a).toArray⟩ : ByteArray).size : Int) := by rw [hsz]; omega
  have g2 : ((⟨(lay a).toArray⟩ : ByteArray).size : Int) ≤ 2000 := by rw [hsz]; omega
  have g3 : (m : Int) ≤ ((⟨(lay a).toArray⟩ : ByteArray).size : Int) := by rw [hsz]; omega
  have g4 : m ≤ (⟨(lay a).toArray⟩ : ByteArray).size := by rw [hsz]; omega
  have g0 : (((⟨(lay a).toArray⟩ : ByteArray).size : Int) == 0) = false := by rw [beq_eq_false_iff_ne]; omega
  clear hr1 hr2 hall hdat hcl hpos hlen hsz hmm
  generalize (⟨(lay a).toArray⟩ : ByteArray) = s at *
  have hadd1 : ∀ W, (Op.stringOp .add x s).run Try.prog W = .ok (.string (x ++ s)) W := fun W => run_string_add_sum W _ _ (by omega)
  have hadd2 : ∀ W, (Op.stringOp .add (x ++ s) y).run Try.prog W = .ok (.string (x ++ s ++ y)) W := fun W => run_string_add_sum W _ _ (by rw [ByteArray.size_append]; omega)
  have hB : Below w.heap.size w (w.alloc (.cells (recCells a at_ ap) 25)) := (Below.refl _ _).alloc (Nat.le_refl _) _
  have BA0 := Blk.new w 25 (recCells a at_ ap)
  clear la hf hm
  unfold recV
  go_enter Try.func5, Try.ntmps5
  go_wp2_with fail
  generalize (w.alloc (.cells (recCells a at_ ap) 25)) = w0 at *
  have BA := Lib.hid BA0
  have HB := Lib.hid hB
  clear hB BA0
  refine (awake_any _).mono ?_
  rintro e w1 ⟨rfl, hb⟩
  have HB2 := Lib.hid (below2 HB.out hb)
  have bA := BA.out.keep hb BA.out.lt
  have BA2 := Lib.hid bA
  clear hb HB BA
  go_wp2_with (refine wpList_load_rowG rfl 25 _ rfl w.heap.size rfl 25 _ (0, 0) _ bA Try.underlying25 rfl (by kernel_rfl) ?_)
  have BA := BA2
  have HB := HB2
  clear bA BA2 HB2
  refine (FA.out _ HB.out).mono ?_
  rintro e w2 ⟨rfl, hb⟩
  have HB2 := Lib.hid (below2 HB.out hb)
  have bA := BA.out.keep hb BA.out.lt
  have BA2 := Lib.hid bA
  clear hb HB BA
  go_wp2_with (refine wpList_load_rowG rfl 25 _ rfl w.heap.size rfl 25 _ (0, 0) _ bA Try.underlying25 rfl (by kernel_rfl) ?_)
  have BA := BA2
  have HB := HB2
  clear bA BA2 HB2
  refine (PA.out _ HB.out).mono ?_
  rintro e w3 ⟨rfl, hb⟩
  have HB2 := Lib.hid (below2 HB.out hb)
  have bA := BA.out.keep hb BA.out.lt
  have BA2 := Lib.hid bA
  clear hb HB BA
  go_wp2_with (refine wpList_load_rowG rfl 25 _ rfl w.heap.size rfl 25 _ (0, 0) _ bA Try.underlying25 rfl (by kernel_rfl) ?_)
  have BA := BA2
  have HB := HB2
  clear bA BA2 HB2
  refine (R1.out _).mono ?_
  rintro e w4 ⟨v4, rfl, ⟨vt4, vp4, hv4, hl4⟩, hb⟩
  subst hv4
  have one4 := hl4.one
  have n4 := Blk.new w4 25 (recCells .nil (.slice none 0 0) (.slice none 0 0))
  have hb3 : Below w4.heap.size w4 ((w4.alloc (.cells (recCells .nil (.slice none 0 0) (.slice none 0 0)) 25)).setRow w4.heap.size (recCells a vt4 vp4)) := below_setRow ((Below.refl _ _).alloc (Nat.le_refl _) _) (Nat.le_refl _) _
  have N4 := Lib.hid (n4.setRow (recCells a vt4 vp4))
  have L4 := Lib.hid (hl4.keep hb3)
  have HB4 := Lib.hid (below2 (below2 HB.out hb) hb3)
  have b4 := (BA.out.keep hb BA.out.lt)
  have B4 := Lib.hid (b4.keep hb3 b4.lt)
  have hlt4 : w4.heap.size < ((w4.alloc (.cells (recCells .nil (.slice none 0 0) (.slice none 0 0)) 25)).setRow w4.heap.size (recCells a vt4 vp4)).heap.size := by simp [World.setRow]
  clear hb hl4 hb3 R1 HB BA b4
  go_wp2_with (refine wpList_store_row rfl 25 _ _ rfl w4.heap.size _ rfl rfl 25 _ n4 (by kernel_rfl) rfl one4 ?_)
  change Calls _ _ _ ((w4.alloc (.cells (recCells .nil (.slice none 0 0) (.slice none 0 0)) 25)).setRow w4.heap.size (recCells a vt4 vp4)) _
  clear n4 one4
  generalize (w4.alloc (.cells (recCells .nil (.slice none 0 0) (.slice none 0 0)) 25)).setRow w4.heap.size (recCells a vt4 vp4) = w5 at *
  generalize w4.heap.size = q4 at *
  refine (R2.out _).mono ?_
  rintro e w6 ⟨v6, rfl, ⟨vt6, vp6, hv6, hl6⟩, hb⟩
  subst hv6
  have one6 := hl6.one
  have n6 := Blk.new w6 25 (recCells .nil (.slice none 0 0) (.slice none 0 0))
  have hb3 : Below w6.heap.size w6 ((w6.alloc (.cells (recCells .nil (.slice none 0 0) (.slice none 0 0)) 25)).setRow w6.heap.size (recCells .nil vt6 vp6)) := below_setRow ((Below.refl _ _).alloc (Nat.le_refl _) _) (Nat.le_refl _) _
  have hbb := below2 hb hb3
  have L6 := Lib.hid (L4.out.keep hbb)
  have N6 := N4.out.keep hbb hlt4
  have B6 := B4.out.keep hbb B4.out.lt
  have HB6 := Lib.hid (below2 HB4.out hbb)
  clear hb hl6 hb3 R2 HB4 B4 L4 N4 hbb hlt4
  go_wp2_with (first
    | (refine wpList_store_row rfl 25 _ _ rfl w6.heap.size _ rfl rfl 25 _ n6 (by kernel_rfl) rfl one6 ?_)
    | (refine wpList_load_rowG rfl 25 _ rfl q4 rfl 25 _ (0, 0) _ N6 Try.underlying25 rfl (by kernel_rfl) ?_)
    | (refine wpList_load_rowG rfl 25 _ rfl w.heap.size rfl 25 _ (0, 0) _ B6 Try.underlying25 rfl (by kernel_rfl) ?_))
  refine (SM.out _ _ HB6.out ⟨vt4, vp4, rfl, L6.out⟩).mono ?_
  rintro e w7 ⟨rfl, hb⟩
  have LB := Lib.hid (below2 HB6.out hb)
  clear hb n6 N6 B6 L6 HB6 SM one6
  go_wp2
  go_ret
  exact ⟨rfl, LB.out⟩

theorem walkRecordBack (va : Value) (a : Rc) (x y : ByteArray) (ct : Int) (w : World) (ha : IsRec w va a) (sa : Sized a) (hx : x.size ≤ maxLen) (hy : y.size ≤ maxLen) (_ : (Lit.int .i64 ct).wf = true) :
    Calls Try.prog 5 #[va, .string x, .string y, .int .i64 ct] w fun e w' => e = .returned (.bool true) ∧ Below w.heap.size w w' := by
  by_cases hf : Fit a
  · by_cases h1 : (200 : Int) < x.size
    · exact recordBack_ahead x y ct ha hx hy hf h1
    · by_cases h2 : (200 : Int) < y.size
      · exact recordBack_behind x y ct ha hx hy hf (by omega) h2
      · by_cases hm : May a
        · exact recordBack_yes x y ct ha hx hy (by omega) (by omega) hm
        · exact recordBack_no x y ct ha hx hy hf (by omega) (by omega) hm
  · exact recordBack_big x y ct ha hx hy sa hf
end Go.Proofs.Ytaidcgbhkhdaiaa
