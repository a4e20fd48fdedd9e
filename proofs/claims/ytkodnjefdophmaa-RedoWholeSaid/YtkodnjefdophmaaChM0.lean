/- careenref11: Rises, Few. -/
import Derived.Test.YtkodnjefdophmaaChD
import Derived.Test.YtkodnjefdophmaaFew
import Derived.Test.YtkodnjefdophmaaLists
namespace Go.Proofs.Ytkodnjefdophmaa
open Go.RowKit

set_option maxRecDepth 100000 in
set_option maxHeartbeats 4000000 in
theorem refRises {w : World} {v : Value} {l : List En} (hv : IsEnts w v l) (yes : Bool) (hy : yes = decide (Ch.Rises l)) :
    Calls Try.prog 17 #[v] w fun e w' => e = .returned (.bool yes) ∧ Below w.heap.size w w' := by
  obtain ⟨a, cap, rfl, hl1, hl2, hx⟩ := hv
  unfold maxLen at hl2
  have HX := Lib.hid hx
  have HY := Lib.hid hy
  clear hx hy
  go_enter Try.func17, Try.ntmps17
  go_wp2_with fail
  go_loopw [3] (fun vk wr => ∃ k : Nat, vk = .int .i64 ((k : Int) + 1) ∧ (k = 0 ∨ k + 1 ≤ l.length) ∧ (∀ j (h : j + 1 < l.length), j < k → l[j].1 < l[j + 1].1) ∧ Below w.heap.size w wr) (fun vk _ => l.length + 1 - (intOf vk).toNat)
  case atStart => exact ⟨0, rfl, .inl rfl, fun j _ h => by omega, Below.refl _ _⟩
  case round =>
    obtain ⟨k, rfl, hk, hno, hB⟩ := hrel
    have HNO := Lib.hid hno
    have HBK := Lib.hid hB
    clear hno hB
    by_cases hlt : k + 1 < l.length
    · obtain ⟨b, off, vt, vp, rfl, lt1, c0, ci, la⟩ := (EntsAt.keep HX.out HBK.out) k (by omega)
      obtain ⟨b2, off2, vt2, vp2, e2, lt2, d0, di, lb⟩ := (EntsAt.keep HX.out HBK.out) (k + 1) hlt
      simp only [Option.some.injEq, Addr.mk.injEq, and_true] at e2
      obtain ⟨rfl, rfl⟩ := e2
      clear ci di la lb
      obtain ⟨x, hx⟩ : ∃ x, x = l[k].1 := ⟨_, rfl⟩
      obtain ⟨y, hy⟩ : ∃ y, y = l[k + 1].1 := ⟨_, rfl⟩
      rw [← hx] at c0
      rw [← hy] at d0
      have HXX := Lib.hid hx
      have HYY := Lib.hid hy
      clear hx hy
      have hk1 : (k : Int) + 1 - 1 = k := by omega
      by_cases hxy : x < y
      · have hno : decide (y ≤ x) = false := by rw [decide_eq_false_iff_not]; omega
        go_wp2_with (go_quiet (fail))
        refine ⟨⟨k + 1, by simp, .inr (by omega), fun j h hj => ?_, HBK.out.trans (belowN (Below.refl _ _) _)⟩, by simp [intOf]; omega⟩
        rcases Nat.lt_or_ge j k with hjk | hjk
        · exact HNO.out j h hjk
        · obtain rfl : j = k := by omega
          rw [← HXX.out, ← HYY.out]; exact hxy
      · have hno : decide (y ≤ x) = true := by rw [decide_eq_true_eq]; omega
        go_wp2_with (go_quiet (fail))
        go_ret
        refine ⟨?_, HBK.out.trans (belowN (Below.refl _ _) _)⟩
        have e : decide (Ch.Rises l) = false := decide_eq_false fun hr => by
          have := (rises_iff l).1 hr k hlt
          rw [← HXX.out, ← HYY.out] at this
          omega
        rw [HY.out, e]
        rfl
    · go_wp2
      go_ret
      refine ⟨?_, HBK.out⟩
      have e : decide (Ch.Rises l) = true := decide_eq_true ((rises_iff l).2 fun j h => HNO.out j h (by omega))
      rw [HY.out, e]
      rfl


/-- Small enough. -/
def FewL (l : List En) : Prop := l.length ≤ 200 ∧ ∀ x ∈ l, Fit x.2
set_option maxRecDepth 100000 in
set_option maxHeartbeats 4000000 in
theorem refFew {w : World} {v : Value} {l : List En} (hv : IsEnts w v l) (hz : ∀ x ∈ l, x.2.before.size ≤ maxLen ∧ x.2.after.size ≤ maxLen) (yes : Bool) (hy : yes = true ↔ FewL l) :
    Calls Try.prog 9 #[v] w fun e w' => e = .returned (.bool yes) ∧ Below w.heap.size w w' := by
  obtain ⟨a, cap, rfl, hl1, hl2, hx⟩ := hv
  unfold maxLen at hl2
  have HX := Lib.hid hx
  have HY := Lib.hid hy
  have HZ := Lib.hid hz
  clear hx hy hz
  go_enter Try.func9, Try.ntmps9
  go_wp2_with fail
  go_loopw [3] (fun vk wr => ∃ k : Nat, vk = .int .i64 k ∧ k ≤ l.length ∧ (∀ j (h : j < l.length), j < k → Fit l[j].2) ∧ Below w.heap.size w wr) (fun vk _ => l.length - (intOf vk).toNat)
  case atStart => exact ⟨0, rfl, Nat.zero_le _, fun j _ h => by omega, Below.refl _ _⟩
  case round =>
    obtain ⟨k, rfl, hk, hno, hB⟩ := hrel
    have HNO := Lib.hid hno
    have HBK := Lib.hid hB
    clear hno hB
    by_cases hlt : k < l.length
    · have hm : l[k] ∈ l := List.getElem_mem hlt
      obtain ⟨b, off, vt, vp, rfl, lt1, la, ci⟩ := (EntsAt.keep HX.out HBK.out).whole k hlt
      obtain ⟨r, hr⟩ : ∃ r, r = l[k].2 := ⟨_, rfl⟩
      obtain ⟨x, hx⟩ : ∃ x, x = l[k].1 := ⟨_, rfl⟩
      have hzr := HZ.out _ hm
      rw [← hr] at hzr la ci
      rw [← hx] at ci
      have HRR := Lib.hid hr
      have CY := Lib.hid (fun hf => few_yes (w := wr) (v := recV r vt vp) ⟨vt, vp, rfl, la⟩ hf)
      have CN := Lib.hid (fun hf => few_no (w := wr) (v := recV r vt vp) ⟨vt, vp, rfl, la⟩ hzr hf)
      obtain ⟨ta, tc, rfl⟩ := la.t.form
      obtain ⟨pa, pc, rfl⟩ := la.p.form
      clear la hr hx hzr hm
      have c1 : wr.cell? ⟨b, off + k * 12 + 1, none⟩ = some (.int .i64 r.kind) := by rw [show off + k * 12 + 1 = off + k * 12 + 1 by omega]; exact ci 1 _ rfl
      have c2 : wr.cell? ⟨b, off + k * 12 + 1 + 1, none⟩ = some (.int .i64 r.txn) := by rw [show off + k * 12 + 1 + 1 = off + k * 12 + 2 by omega]; exact ci 2 _ rfl
      have c3 : wr.cell? ⟨b, off + k * 12 + 1 + 2, none⟩ = some (.int .i64 r.page) := by rw [show off + k * 12 + 1 + 2 = off + k * 12 + 3 by omega]; exact ci 3 _ rfl
      have c4 : wr.cell? ⟨b, off + k * 12 + 1 + 3, none⟩ = some (.int .i64 r.off) := by rw [show off + k * 12 + 1 + 3 = off + k * 12 + 4 by omega]; exact ci 4 _ rfl
      have c5 : wr.cell? ⟨b, off + k * 12 + 1 + 4, none⟩ = some (.int .i64 r.prev) := by rw [show off + k * 12 + 1 + 4 = off + k * 12 + 5 by omega]; exact ci 5 _ rfl
      have c6 : wr.cell? ⟨b, off + k * 12 + 1 + 5, none⟩ = some (.int .i64 r.next) := by rw [show off + k * 12 + 1 + 5 = off + k * 12 + 6 by omega]; exact ci 6 _ rfl
      have c7 : wr.cell? ⟨b, off + k * 12 + 1 + 6, none⟩ = some (.int .i64 r.beg) := by rw [show off + k * 12 + 1 + 6 = off + k * 12 + 7 by omega]; exact ci 7 _ rfl
      have c8 : wr.cell? ⟨b, off + k * 12 + 1 + 7, none⟩ = some (.string r.before) := by rw [show off + k * 12 + 1 + 7 = off + k * 12 + 8 by omega]; exact ci 8 _ rfl
      have c9 : wr.cell? ⟨b, off + k * 12 + 1 + 8, none⟩ = some (.string r.after) := by rw [show off + k * 12 + 1 + 8 = off + k * 12 + 9 by omega]; exact ci 9 _ rfl
      have c10 : wr.cell? ⟨b, off + k * 12 + 1 + 9, none⟩ = some (.slice ta r.txns.length tc) := by rw [show off + k * 12 + 1 + 9 = off + k * 12 + 10 by omega]; exact ci 10 _ rfl
      have c11 : wr.cell? ⟨b, off + k * 12 + 1 + 10, none⟩ = some (.slice pa r.pages.length pc) := by rw [show off + k * 12 + 1 + 10 = off + k * 12 + 11 by omega]; exact ci 11 _ rfl
      clear ci
      by_cases hf : Fit r
      · have C := CY.out hf
        unfold recV recCells at C
        have CC := Lib.hid C
        have HF := Lib.hid hf
        clear C CY CN hf
        go_wp2_with fail
        refine CC.out.mono ?_
        rintro e w1 ⟨rfl, hb1⟩
        have HB1 := Lib.hid hb1
        clear hb1 CC c1 c2 c3 c4 c5 c6 c7 c8 c9 c10 c11
        go_wp2
        refine ⟨⟨k + 1, by simp, hlt, fun j h hj => ?_, below2 HBK.out HB1.out⟩, by simp [intOf]; omega⟩
        rcases Nat.lt_or_ge j k with hjk | hjk
        · exact HNO.out j h hjk
        · obtain rfl : j = k := by omega
          rw [← HRR.out]; exact HF.out
      · have C := CN.out hf
        unfold recV recCells at C
        have CC := Lib.hid C
        have HF := Lib.hid hf
        clear C CY CN hf
        go_wp2_with fail
        refine CC.out.mono ?_
        rintro e w1 ⟨rfl, hb1⟩
        have HB1 := Lib.hid hb1
        have e0 : yes = false := by
          rw [Bool.eq_false_iff]
          intro h
          exact HF.out (by rw [HRR.out]; exact (HY.out.1 h).2 _ (List.getElem_mem hlt))
        clear hb1 CC c1 c2 c3 c4 c5 c6 c7 c8 c9 c10 c11
        subst e0
        go_wp2
        go_ret
        exact ⟨rfl, below2 HBK.out HB1.out⟩
    · have hall : ∀ x ∈ l, Fit x.2 := fun x hx => by
        obtain ⟨j, hj, rfl⟩ := List.getElem_of_mem hx
        exact HNO.out j hj (by omega)
      have e0 : yes = decide ((l.length : Int) ≤ 200) := by
        rw [Bool.eq_iff_iff, HY.out, decide_eq_true_eq]
        exact ⟨fun h => by have := h.1; omega, fun h => ⟨by omega, hall⟩⟩
      subst e0
      clear HY
      go_wp2
      go_ret
      exact ⟨rfl, HBK.out⟩
end Go.Proofs.Ytkodnjefdophmaa
