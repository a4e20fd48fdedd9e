/- Layer 4's statements: RecordLong, walked. -/
import Derived.Test.YtaidcgbhkhdaiaaRecM2
import Derived.Test.YtaidcgbhkhdaiaaOpenRec
namespace Go.Proofs.Ytaidcgbhkhdaiaa
open Go.RowKit

/-- How long a record's bytes are, by its kind. -/
theorem lay_long {r : Rc} (h : May r) : (r.kind = 1 ∧ ((lay r).length : Int) = 12 + 2 * r.after.size) ∨ (r.kind = 2 ∧ ((lay r).length : Int) = 16 + r.after.size) ∨ (r.kind = 3 ∧ ((lay r).length : Int) = 9) ∨
    (r.kind = 4 ∧ ((lay r).length : Int) = 9) ∨ (r.kind = 5 ∧ ((lay r).length : Int) = 1) ∨ (r.kind = 6 ∧ ((lay r).length : Int) = 7 + 12 * r.txns.length + 5 * r.pages.length) := by
  cases h with
  | @upd t p pg o b a ht hn hp hs hb =>
    refine .inl ⟨rfl, ?_⟩
    have e : (lay (.upd t p pg o b a)).length = 12 + b.data.toList.length + a.data.toList.length := by
      simp only [lay, Rc.upd, List.length_append]
      simp [beI_len]
      omega
    have s1 : b.data.toList.length = b.size := rfl
    have s2 : a.data.toList.length = a.size := rfl
    rw [e, s1, s2]
    show ((12 + b.size + a.size : Nat) : Int) = 12 + 2 * (a.size : Int)
    omega
  | @und t p n pg o a ht hn hp hx hs =>
    refine .inr (.inl ⟨rfl, ?_⟩)
    have e : (lay (.und t p n pg o a)).length = 16 + a.data.toList.length := by
      simp only [lay, Rc.und, List.length_append]
      simp [beI_len]
      omega
    have s2 : a.data.toList.length = a.size := rfl
    rw [e, s2]
    show ((16 + a.size : Nat) : Int) = 16 + (a.size : Int)
    omega
  | @com k t p hk ht hn hp =>
    have e : (lay (.com k t p)).length = 9 := by
      rcases hk with rfl | rfl <;> simp [lay, Rc.com, beI_len]
    rcases hk with rfl | rfl
    · exact .inr (.inr (.inl ⟨rfl, by rw [e]; rfl⟩))
    · exact .inr (.inr (.inr (.inl ⟨rfl, by rw [e]; rfl⟩)))
  | beg => exact .inr (.inr (.inr (.inr (.inl ⟨rfl, by decide⟩))))
  | @tab b ts ps hb ht hp h3 h2 =>
    refine .inr (.inr (.inr (.inr (.inr ⟨rfl, ?_⟩))))
    have e : (lay (.tab b ts ps)).length = 7 + 12 * ts.length + 5 * ps.length := by
      have e2 : (lay (.tab b ts ps)) = [lowI 6] ++ encTab (.tab b ts ps) := by simp [lay, Rc.tab]
      rw [e2, List.length_append]
      simp only [encTab, List.length_append, beI_len, List.length_cons, List.length_nil, Rc.tab, flat3_len, flat2_len]
      omega
    rw [e]
    show ((7 + 12 * ts.length + 5 * ps.length : Nat) : Int) = 7 + 12 * (ts.length : Int) + 5 * (ps.length : Int)
    omega

set_option maxRecDepth 100000 in
set_option maxHeartbeats 16000000 in
theorem recordLong_big {w : World} {va : Value} {a : Rc} (ha : IsRec w va a) (sa : Sized a) (hf : ¬ Fit a) :
    Calls Try.prog 10 #[va] w fun e w' => e = .returned (.bool true) ∧ Below w.heap.size w w' := by
  obtain ⟨at_, ap, rfl, la⟩ := ha
  have FA := Lib.hid (fun W (hW : Below w.heap.size w W) => (few_no ⟨at_, ap, rfl, la.keep hW⟩ sa hf : Calls Try.prog 12 #[.agg (recCells a at_ ap)] W _))
  have hB : Below w.heap.size w (w.alloc (.cells (recCells a at_ ap) 25)) := (Below.refl _ _).alloc (Nat.le_refl _) _
  have BA0 := Blk.new w 25 (recCells a at_ ap)
  clear la sa hf
  unfold recV
  go_enter Try.func10, Try.ntmps10
  go_wp2_with fail
  generalize (w.alloc (.cells (recCells a at_ ap) 25)) = w0 at *
  have BA := Lib.hid BA0
  have HB := Lib.hid hB
  clear hB BA0
  refine (awake_any _).mono ?_
  rintro e w1 ⟨rfl, hb⟩
  have HB2 := Lib.hid (below2 HB.out hb)
  have bA := BA.out.keep hb BA.out.lt
  have BA2 := Lib.hid bA
  clear hb HB BA
  go_wp2_with (refine wpList_load_rowG rfl 25 _ rfl w.heap.size rfl 25 _ (0, 0) _ bA Try.underlying25 rfl (by kernel_rfl) ?_)
  have BA := BA2
  have HB := HB2
  clear bA BA2 HB2
  refine (FA.out _ HB.out).mono ?_
  rintro e w2 ⟨rfl, hb⟩
  have HB2 := Lib.hid (below2 HB.out hb)
  have bA := BA.out.keep hb BA.out.lt
  have BA2 := Lib.hid bA
  clear hb HB BA
  go_wp2_with (refine wpList_load_rowG rfl 25 _ rfl w.heap.size rfl 25 _ (0, 0) _ bA Try.underlying25 rfl (by kernel_rfl) ?_)
  have BA := BA2
  have HB := HB2
  clear bA BA2 HB2
  refine (awake_any _).mono ?_
  rintro e w3 ⟨rfl, hb⟩
  have HB2 := Lib.hid (below2 HB.out hb)
  have bA := BA.out.keep hb BA.out.lt
  have BA2 := Lib.hid bA
  clear hb HB BA
  go_wp2_with (refine wpList_load_rowG rfl 25 _ rfl w.heap.size rfl 25 _ (0, 0) _ bA Try.underlying25 rfl (by kernel_rfl) ?_)
  have BA := BA2
  have HB := HB2
  clear bA BA2 HB2
  go_ret
  exact ⟨rfl, HB.out⟩

set_option maxRecDepth 100000 in
set_option maxHeartbeats 16000000 in
theorem recordLong_no {w : World} {va : Value} {a : Rc} (ha : IsRec w va a) (hf : Fit a) (hm : ¬ May a) :
    Calls Try.prog 10 #[va] w fun e w' => e = .returned (.bool true) ∧ Below w.heap.size w w' := by
  obtain ⟨at_, ap, rfl, la⟩ := ha
  have FA := Lib.hid (fun W (hW : Below w.heap.size w W) => (few_yes ⟨at_, ap, rfl, la.keep hW⟩ hf : Calls Try.prog 12 #[.agg (recCells a at_ ap)] W _))
  have PA := Lib.hid (fun W (hW : Below w.heap.size w W) => (print_no ⟨at_, ap, rfl, la.keep hW⟩ hf hm : Calls Try.prog 13 #[.agg (recCells a at_ ap)] W _))
  have hB : Below w.heap.size w (w.alloc (.cells (recCells a at_ ap) 25)) := (Below.refl _ _).alloc (Nat.le_refl _) _
  have BA0 := Blk.new w 25 (recCells a at_ ap)
  clear la hf hm
  unfold recV
  go_enter Try.func10, Try.ntmps10
  go_wp2_with fail
  generalize (w.alloc (.cells (recCells a at_ ap) 25)) = w0 at *
  have BA := Lib.hid BA0
  have HB := Lib.hid hB
  clear hB BA0
  refine (awake_any _).mono ?_
  rintro e w1 ⟨rfl, hb⟩
  have HB2 := Lib.hid (below2 HB.out hb)
  have bA := BA.out.keep hb BA.out.lt
  have BA2 := Lib.hid bA
  clear hb HB BA
  go_wp2_with (refine wpList_load_rowG rfl 25 _ rfl w.heap.size rfl 25 _ (0, 0) _ bA Try.underlying25 rfl (by kernel_rfl) ?_)
  have BA := BA2
  have HB := HB2
  clear bA BA2 HB2
  refine (FA.out _ HB.out).mono ?_
  rintro e w2 ⟨rfl, hb⟩
  have HB2 := Lib.hid (below2 HB.out hb)
  have bA := BA.out.keep hb BA.out.lt
  have BA2 := Lib.hid bA
  clear hb HB BA
  go_wp2_with (refine wpList_load_rowG rfl 25 _ rfl w.heap.size rfl 25 _ (0, 0) _ bA Try.underlying25 rfl (by kernel_rfl) ?_)
  have BA := BA2
  have HB := HB2
  clear bA BA2 HB2
  refine (PA.out _ HB.out).mono ?_
  rintro e w3 ⟨rfl, hb⟩
  have HB2 := Lib.hid (below2 HB.out hb)
  have bA := BA.out.keep hb BA.out.lt
  have BA2 := Lib.hid bA
  clear hb HB BA
  go_wp2_with (refine wpList_load_rowG rfl 25 _ rfl w.heap.size rfl 25 _ (0, 0) _ bA Try.underlying25 rfl (by kernel_rfl) ?_)
  have BA := BA2
  have HB := HB2
  clear bA BA2 HB2
  go_ret
  exact ⟨rfl, HB.out⟩

set_option maxRecDepth 100000 in
set_option maxHeartbeats 16000000 in
theorem recordLong_yes {w : World} {va : Value} {a : Rc} (ha : IsRec w va a) (hm : May a) :
    Calls Try.prog 10 #[va] w fun e w' => e = .returned (.bool true) ∧ Below w.heap.size w w' := by
  obtain ⟨at_, ap, rfl, la⟩ := ha
  have hff := hm.fit
  have FA := Lib.hid (fun W (hW : Below w.heap.size w W) => (few_yes ⟨_, _, rfl, la.keep hW⟩ hff : Calls Try.prog 12 #[.agg (recCells a at_ ap)] W _))
  have PA := Lib.hid (fun W (hW : Below w.heap.size w W) => (print_yes ⟨_, _, rfl, la.keep hW⟩ hm : Calls Try.prog 13 #[.agg (recCells a at_ ap)] W _))
  have LL := Lib.hid (lay_long hm)
  have hsz : (⟨(lay a).toArray⟩ : ByteArray).size = (lay a).length := by simp [ByteArray.size]
  rw [← hsz] at LL
  have h1 := hff.after
  have h2 := hff.txns
  have h3 := hff.pages
  generalize (⟨(lay a).toArray⟩ : ByteArray) = s at *
  clear hsz
  obtain ⟨ata, atc, e⟩ := la.t.form
  subst e
  obtain ⟨apa, apc, e⟩ := la.p.form
  subst e
  have hB : Below w.heap.size w (w.alloc (.cells (recCells a (.slice ata a.txns.length atc) (.slice apa a.pages.length apc)) 25)) := (Below.refl _ _).alloc (Nat.le_refl _) _
  have BA0 := Blk.new w 25 (recCells a (.slice ata a.txns.length atc) (.slice apa a.pages.length apc))
  clear la hm hff
  unfold recV
  go_enter Try.func10, Try.ntmps10
  go_wp2_with fail
  generalize (w.alloc (.cells (recCells a (.slice ata a.txns.length atc) (.slice apa a.pages.length apc)) 25)) = w0 at *
  have BA := Lib.hid BA0
  have HB := Lib.hid hB
  clear hB BA0
  refine (awake_any _).mono ?_
  rintro e w1 ⟨rfl, hb⟩
  have HB2 := Lib.hid (below2 HB.out hb)
  have bA := BA.out.keep hb BA.out.lt
  have BA2 := Lib.hid bA
  clear hb HB BA
  go_wp2_with (refine wpList_load_rowG rfl 25 _ rfl w.heap.size rfl 25 _ (0, 0) _ bA Try.underlying25 rfl (by kernel_rfl) ?_)
  have BA := BA2
  have HB := HB2
  clear bA BA2 HB2
  refine (FA.out _ HB.out).mono ?_
  rintro e w2 ⟨rfl, hb⟩
  have HB2 := Lib.hid (below2 HB.out hb)
  have bA := BA.out.keep hb BA.out.lt
  have BA2 := Lib.hid bA
  clear hb HB BA
  go_wp2_with (refine wpList_load_rowG rfl 25 _ rfl w.heap.size rfl 25 _ (0, 0) _ bA Try.underlying25 rfl (by kernel_rfl) ?_)
  have BA := BA2
  have HB := HB2
  clear bA BA2 HB2
  refine (PA.out _ HB.out).mono ?_
  rintro e w3 ⟨rfl, hb⟩
  have HB2 := Lib.hid (below2 HB.out hb)
  have bA := BA.out.keep hb BA.out.lt
  have hlt := bA.lt
  have c0 := bA.cell 0
  have c8 := bA.cell 8
  have c9 := bA.cell 9
  have c10 := bA.cell 10
  simp [recCells] at c0 c8 c9 c10
  have g1 : (a.after.size : Int) ≤ 300 := by omega
  have g2 : (a.txns.length : Int) ≤ 50 := by omega
  have g3 : (a.pages.length : Int) ≤ 50 := by omega
  clear hb HB BA bA
  rcases LL.out with ⟨hk, hl⟩ | ⟨hk, hl⟩ | ⟨hk, hl⟩ | ⟨hk, hl⟩ | ⟨hk, hl⟩ | ⟨hk, hl⟩
  all_goals
    rw [hk] at c0
    clear hk LL
    have HLL := Lib.hid hl
    clear hl
    go_wp2
    go_ret
    refine ⟨?_, ?_⟩
    · show Ending.returned (.bool (_ == _)) = _
      rw [HLL.out]
      simp
    · exact HB2.out.alloc HB2.out.size _

theorem walkRecordLong (va : Value) (a : Rc) (w : World) (ha : IsRec w va a) (sa : Sized a) :
    Calls Try.prog 10 #[va] w fun e w' => e = .returned (.bool true) ∧ Below w.heap.size w w' := by
  by_cases hf : Fit a
  · by_cases hm : May a
    · exact recordLong_yes ha hm
    · exact recordLong_no ha hf hm
  · exact recordLong_big ha sa hf
end Go.Proofs.Ytaidcgbhkhdaiaa
