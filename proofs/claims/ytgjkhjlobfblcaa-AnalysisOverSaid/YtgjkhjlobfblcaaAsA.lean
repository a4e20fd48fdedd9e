/- Package analysis: rise; slices.BinarySearchFunc of entries, by Tables' function. -/
import Derived.Test.YtgjkhjlobfblcaaChD
namespace Go.Proofs.Ytgjkhjlobfblcaa
open Go.RowKit

set_option maxRecDepth 100000 in
set_option maxHeartbeats 4000000 in
theorem asRise {w : World} {v : Value} {l : List En} (hv : IsEnts w v l) (yes : Bool) (hy : yes = decide (Ch.Rises l)) :
    Calls Try.prog 15 #[v] w fun e w' => e = .returned (.bool yes) ∧ Below w.heap.size w w' := by
  obtain ⟨a, cap, rfl, hl1, hl2, hx⟩ := hv
  unfold maxLen at hl2
  have HX := Lib.hid hx
  have HY := Lib.hid hy
  clear hx hy
  go_enter Try.func15, Try.ntmps15
  go_wp2_with fail
  go_loopw [3] (fun vk wr => ∃ k : Nat, vk = .int .i64 ((k : Int) + 1) ∧ (k = 0 ∨ k + 1 ≤ l.length) ∧ (∀ j (h : j + 1 < l.length), j < k → l[j].1 < l[j + 1].1) ∧ Below w.heap.size w wr) (fun vk _ => l.length + 1 - (intOf vk).toNat)
  case atStart => exact ⟨0, rfl, .inl rfl, fun j _ h => by omega, Below.refl _ _⟩
  case round =>
    obtain ⟨k, rfl, hk, hno, hB⟩ := hrel
    have HNO := Lib.hid hno
    have HBK := Lib.hid hB
    clear hno hB
    by_cases hlt : k + 1 < l.length
    · obtain ⟨b, off, vt, vp, rfl, lt1, c0, ci, la⟩ := (EntsAt.keep HX.out HBK.out) k (by omega)
      obtain ⟨b2, off2, vt2, vp2, e2, lt2, d0, di, lb⟩ := (EntsAt.keep HX.out HBK.out) (k + 1) hlt
      simp only [Option.some.injEq, Addr.mk.injEq, and_true] at e2
      obtain ⟨rfl, rfl⟩ := e2
      clear ci di la lb
      obtain ⟨x, hx⟩ : ∃ x, x = l[k].1 := ⟨_, rfl⟩
      obtain ⟨y, hy⟩ : ∃ y, y = l[k + 1].1 := ⟨_, rfl⟩
      rw [← hx] at c0
      rw [← hy] at d0
      have HXX := Lib.hid hx
      have HYY := Lib.hid hy
      clear hx hy
      have hk1 : (k : Int) + 1 - 1 = k := by omega
      by_cases hxy : x < y
      · have hno : decide (y ≤ x) = false := by rw [decide_eq_false_iff_not]; omega
        go_wp2_with (go_quiet (fail))
        refine ⟨⟨k + 1, by simp, .inr (by omega), fun j h hj => ?_, HBK.out.trans (belowN (Below.refl _ _) _)⟩, by simp [intOf]; omega⟩
        rcases Nat.lt_or_ge j k with hjk | hjk
        · exact HNO.out j h hjk
        · obtain rfl : j = k := by omega
          rw [← HXX.out, ← HYY.out]; exact hxy
      · have hno : decide (y ≤ x) = true := by rw [decide_eq_true_eq]; omega
        go_wp2_with (go_quiet (fail))
        go_ret
        refine ⟨?_, HBK.out.trans (belowN (Below.refl _ _) _)⟩
        have e : decide (Ch.Rises l) = false := decide_eq_false fun hr => by
          have := (rises_iff l).1 hr k hlt
          rw [← HXX.out, ← HYY.out] at this
          omega
        rw [HY.out, e]
        rfl
    · go_wp2
      go_ret
      refine ⟨?_, HBK.out⟩
      have e : decide (Ch.Rises l) = true := decide_eq_true ((rises_iff l).2 fun j h => HNO.out j h (by omega))
      rw [HY.out, e]
      rfl

set_option maxRecDepth 100000 in
theorem asCmp (p q : Int) (r : Rc) (vt vp : Value) (ht : SlV vt) (hp : SlV vp) (w : World) : Calls Try.prog 17 #[entV p r vt vp, .int .i64 q] w fun e w' => e = .returned (.int .i64 (cmpI p q)) ∧ Below w.heap.size w w' := by
  obtain ⟨ta, tn, tc, rfl⟩ := ht
  obtain ⟨pa, pn, pc, rfl⟩ := hp
  unfold entV entCells
  go_enter Try.func17, Try.ntmps17
  go_wp2_with fail
  refine (chCompare p q _).mono ?_
  rintro e w1 ⟨rfl, rfl⟩
  go_wp2
  go_ret
  exact ⟨rfl, (Below.refl _ _).alloc (Nat.le_refl _) _⟩
set_option maxRecDepth 100000 in
set_option maxHeartbeats 4000000 in
theorem asSearch {w : World} {v : Value} {l : List En} (hv : IsEnts w v l) (hr : Ch.Rises l) (hn : l.length ≤ 1000) (p : Int) :
    Calls Try.prog 16 #[v, .int .i64 p, .func (.func 17) #[] #[]] w fun e w' => Below w.heap.size w w' ∧ ∃ (i : Nat) (yes : Bool), SpotE l p i ∧ (yes = true ↔ ∃ h : i < l.length, l[i].1 = p) ∧
      e = .returned (.tuple #[.int .i64 i, .bool yes]) := by
  obtain ⟨a, cap, rfl, hl1, hl2, hx⟩ := hv
  have HX := Lib.hid hx
  have HR := Lib.hid hr
  clear hx hr hl2
  go_enter Try.func16, Try.ntmps16
  go_wp2_with fail
  go_loopw [9, 10] (fun vi vj wr => ∃ i j : Nat, vi = .int .i64 i ∧ vj = .int .i64 j ∧ i ≤ j ∧ j ≤ l.length ∧ (∀ k (h : k < l.length), k < i → l[k].1 < p) ∧ (∀ k (h : k < l.length), j ≤ k → p ≤ l[k].1) ∧ Below w.heap.size w wr) (fun vi vj _ => (intOf vj).toNat - (intOf vi).toNat)
  case atStart => exact ⟨0, l.length, rfl, rfl, Nat.zero_le _, Nat.le_refl _, fun _ _ h => by omega, fun k h1 h2 => by omega, Below.refl _ _⟩
  case round =>
    obtain ⟨i, j, rfl, rfl, hij, hjn, hlo, hhi, hB⟩ := hrel
    have HLO := Lib.hid hlo
    have HHI := Lib.hid hhi
    have HBK := Lib.hid hB
    clear hlo hhi hB
    by_cases hlt : i < j
    · obtain ⟨m, hm⟩ : ∃ m : Nat, m = (i + j) / 2 := ⟨_, rfl⟩
      have hmi : i ≤ m := by omega
      have hmj : m < j := by omega
      have em : ((i : Int) + j) / 2 = (m : Int) := by omega
      clear hm
      obtain ⟨b, off, vt, vp, rfl, lt1, la, ci⟩ := (EntsAt.keep HX.out HBK.out).whole m (by omega)
      obtain ⟨x, hx⟩ : ∃ x, x = l[m].1 := ⟨_, rfl⟩
      obtain ⟨r, hr⟩ : ∃ r, r = l[m].2 := ⟨_, rfl⟩
      rw [← hx, ← hr] at ci
      rw [← hr] at la
      have HXX := Lib.hid hx
      clear hx hr
      have C := asCmp x p r vt vp la.t.sl la.p.sl wr
      obtain ⟨ta, tc, rfl⟩ := la.t.form
      obtain ⟨pa, pc, rfl⟩ := la.p.form
      clear la
      have c0 : wr.cell? ⟨b, off + m * 12, none⟩ = _ := ci 0 _ rfl
      have c1 := ci 1 _ rfl
      have c2 := ci 2 _ rfl
      have c3 := ci 3 _ rfl
      have c4 := ci 4 _ rfl
      have c5 := ci 5 _ rfl
      have c6 := ci 6 _ rfl
      have c7 := ci 7 _ rfl
      have c8 := ci 8 _ rfl
      have c9 := ci 9 _ rfl
      have c10 := ci 10 _ rfl
      have c11 := ci 11 _ rfl
      clear ci
      unfold entV entCells at C
      have CC := Lib.hid C
      clear C
      go_upto_region 5 with fail

      by_cases hxp : x < p
      · go_wp2_with fail
        refine (CC.out).mono ?_
        rintro e w1 ⟨rfl, hb1⟩
        have hc : cmpI x p = -1 := by unfold cmpI; rw [if_pos hxp]
        rw [hc]
        have HB1 := Lib.hid hb1
        clear hb1 c0 c1 c2 c3 c4 c5 c6 c7 c8 c9 c10 c11 CC
        go_wp2
        refine ⟨⟨m + 1, j, by simp, rfl, by omega, hjn, fun k h hk => ?_, HHI.out, below2 HBK.out HB1.out⟩, by simp [intOf]; omega⟩
        rcases Nat.lt_or_ge k m with hkm | hkm
        · exact Int.lt_trans (rises_lt HR.out (show m < l.length by omega) hkm) (by rw [← HXX.out]; exact hxp)
        · obtain rfl : k = m := by omega
          rw [← HXX.out]; exact hxp
      · go_wp2_with fail
        refine (CC.out).mono ?_
        rintro e w1 ⟨rfl, hb1⟩
        obtain ⟨c, hc, hc0⟩ : ∃ c, cmpI x p = c ∧ decide (c < 0) = false := ⟨_, rfl, by unfold cmpI; rw [if_neg (by omega)]; split <;> rfl⟩
        rw [hc]
        have HB1 := Lib.hid hb1
        clear hb1 c0 c1 c2 c3 c4 c5 c6 c7 c8 c9 c10 c11 CC
        clear hc
        go_wp2
        refine ⟨⟨i, m, rfl, rfl, hmi, by omega, HLO.out, fun k h hk => ?_, below2 HBK.out HB1.out⟩, by simp [intOf]; omega⟩
        rcases Nat.lt_or_ge m k with hkm | hkm
        · have := rises_lt HR.out h hkm
          rw [← HXX.out] at this
          omega
        · obtain rfl : k = m := by omega
          rw [← HXX.out]; omega
    · obtain rfl : i = j := by omega
      by_cases hin : i < l.length
      · obtain ⟨b, off, vt, vp, rfl, lt1, la, ci⟩ := (EntsAt.keep HX.out HBK.out).whole i hin
        obtain ⟨x, hx⟩ : ∃ x, x = l[i].1 := ⟨_, rfl⟩
        obtain ⟨r, hr⟩ : ∃ r, r = l[i].2 := ⟨_, rfl⟩
        rw [← hx, ← hr] at ci
        rw [← hr] at la
        have HXX := Lib.hid hx
        clear hx hr
        have C := asCmp x p r vt vp la.t.sl la.p.sl wr
        obtain ⟨ta, tc, rfl⟩ := la.t.form
        obtain ⟨pa, pc, rfl⟩ := la.p.form
        clear la
        have c0 : wr.cell? ⟨b, off + i * 12, none⟩ = _ := ci 0 _ rfl
        have c1 := ci 1 _ rfl
        have c2 := ci 2 _ rfl
        have c3 := ci 3 _ rfl
        have c4 := ci 4 _ rfl
        have c5 := ci 5 _ rfl
        have c6 := ci 6 _ rfl
        have c7 := ci 7 _ rfl
        have c8 := ci 8 _ rfl
        have c9 := ci 9 _ rfl
        have c10 := ci 10 _ rfl
        have c11 := ci 11 _ rfl
        clear ci
        unfold entV entCells at C
        have CC := Lib.hid C
        clear C
        go_wp2_with fail
        refine (CC.out).mono ?_
        rintro e w1 ⟨rfl, hb1⟩
        obtain ⟨c, hc⟩ : ∃ c, cmpI x p = c := ⟨_, rfl⟩
        rw [hc]
        have HB1 := Lib.hid hb1
        have HC := Lib.hid hc
        clear hb1 hc c0 c1 c2 c3 c4 c5 c6 c7 c8 c9 c10 c11 CC
        go_wp2
        go_ret2
        refine ⟨below2 HBK.out HB1.out, i, c == 0, ⟨by omega, HLO.out, HHI.out⟩, ?_, rfl⟩
        have h3 := HXX.out
        have h4 := HC.out
        rw [beq_iff_eq]
        constructor
        · intro h0
          refine ⟨hin, ?_⟩
          rw [← h3]
          rw [h0] at h4
          unfold cmpI at h4
          split at h4
          · cases h4
          · split at h4
            · cases h4
            · omega
        · rintro ⟨_, h0⟩
          rw [← h3] at h0
          rw [← h4, h0]
          unfold cmpI
          simp
      · obtain rfl : i = l.length := by omega
        go_wp2
        go_ret2
        exact ⟨HBK.out, l.length, false, ⟨Nat.le_refl _, HLO.out, HHI.out⟩, by simp, rfl⟩
end Go.Proofs.Ytgjkhjlobfblcaa
