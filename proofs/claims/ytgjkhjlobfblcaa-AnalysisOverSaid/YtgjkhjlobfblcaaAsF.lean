/- Package analysis: From, Horizon. -/
import Derived.Test.YtgjkhjlobfblcaaAsD
namespace Go.Proofs.Ytgjkhjlobfblcaa
open Go.RowKit
set_option linter.unusedSimpArgs false

theorem leastP_take (c : Int) (l : List Row2) (k : Nat) (h : k < l.length) : An.leastP c (l.take (k + 1)) = min (An.leastP c (l.take k)) l[k].2 := take_fold _ _ _ _ h
theorem leastT_take (c : Int) (l : List Row3) (k : Nat) (h : k < l.length) : An.leastT c (l.take (k + 1)) = min (An.leastT c (l.take k)) l[k].2.1 := take_fold _ _ _ _ h
theorem min_runL (x y : Int) (w : World) : (Builtin.min_ #[3, 3] 3 #[.int .i64 x, .int .i64 y]).run Try.prog w = .ok (.int .i64 (min x y)) w := by rw [min_run, Int.min_comm]
set_option maxRecDepth 100000 in
set_option maxHeartbeats 4000000 in
theorem asFrom {w : World} {v : Value} {l : List Row2} (hv : Elems w v l.length (rows2 l)) (check : Int) :
    Calls Try.prog 12 #[.int .i64 check, v] w fun e w' => e = .returned (.int .i64 (An.fromN l)) ∧ Below w.heap.size w w' := by
  have hm := hv.le
  unfold maxLen at hm
  cases l with
  | nil =>
    obtain ⟨a, c, rfl⟩ := hv.form
    clear hm hv
    go_enter Try.func12, Try.ntmps12
    go_wp2
    go_ret
    exact ⟨rfl, Below.refl _ _⟩
  | cons x l =>
    obtain ⟨L, hL⟩ : ∃ L, L = x :: l := ⟨_, rfl⟩
    have HF : Hid (An.fromN (x :: l) = An.leastP x.2 L) := by
      rw [hL]
      show An.leastP x.2 l = An.leastP (min x.2 x.2) l
      rw [Int.min_self]
    have h0 : (rows2 (x :: l))[1]? = some (.int .i64 x.2) := rfl
    obtain ⟨F, hF⟩ : ∃ F, An.fromN (x :: l) = F := ⟨_, rfl⟩
    rw [hF] at HF ⊢
    obtain ⟨b, off, cap, rfl, h1, h2, h3, h4⟩ := hv.cases (by intro e; rw [e] at h0; cases h0)
    have c0 := h4 1 _ h0
    rw [← hL] at hv hm ⊢
    have hl0 : 0 < L.length := by rw [hL]; simp
    have HV := Lib.hid hv
    have HL : Hid (L ≠ []) := by rw [Hid, hL]; simp
    clear hF h0 h1 h2 h4 hL hv
    obtain ⟨m, hmm⟩ : ∃ m, x.2 = m := ⟨_, rfl⟩
    rw [hmm] at c0 HF
    clear hmm
    obtain ⟨n, hn⟩ : ∃ n, L.length = n := ⟨_, rfl⟩
    rw [hn] at hm hl0 ⊢
    have HN := Lib.hid hn
    clear hn
    have hnz : ((n : Int) == 0) = false := by simp; omega
    go_enter Try.func12, Try.ntmps12
    go_wp2_with fail
    go_loopw [5, 17] (fun vm vi wr => ∃ k : Nat, vi = .int .i64 k ∧ k ≤ n ∧ vm = .int .i64 (An.leastP m (L.take k)) ∧ Below w.heap.size w wr) (fun _ vi _ => n - (intOf vi).toNat)
    case atStart => exact ⟨0, rfl, Nat.zero_le _, rfl, Below.refl _ _⟩
    case round =>
      obtain ⟨k, rfl, hk, rfl, hB⟩ := hrel
      have HB := Lib.hid hB
      clear hB
      by_cases hlt : k < n
      · have hkn : k < L.length := by rw [HN.out]; exact hlt
        obtain ⟨b', off', cap', e0, _, _, hbl, hc⟩ := Elems.at2 (l := L) (HV.out.keep HB.out) HL.out
        rw [HN.out] at e0
        obtain ⟨e1, _, rfl⟩ := Value.slice.inj e0
        simp only [Option.some.injEq, Addr.mk.injEq, and_true] at e1
        obtain ⟨rfl, rfl⟩ := e1
        obtain ⟨x0, x1⟩ := hc k hkn
        have HT := Lib.hid (leastP_take m L k hkn)
        obtain ⟨t, ht⟩ : ∃ t, t = L[k].1 := ⟨_, rfl⟩
        obtain ⟨f, hf⟩ : ∃ f, f = L[k].2 := ⟨_, rfl⟩
        rw [← ht] at x0
        rw [← hf] at x1 HT
        clear ht hf hc e0 hkn
        obtain ⟨q, hq⟩ : ∃ q, q = An.leastP m (L.take k) := ⟨_, rfl⟩
        rw [← hq] at HT ⊢
        clear hq c0
        obtain ⟨q2, hq2⟩ : ∃ q2, min q f = q2 := ⟨_, rfl⟩
        rw [hq2] at HT
        have rm := min_runL q f
        rw [hq2] at rm
        clear hq2
        go_wp2
        refine ⟨⟨k + 1, by simp, hlt, by rw [HT.out], ?_⟩, by simp [intOf]; omega⟩
        exact HB.out.alloc HB.out.size _
      · obtain rfl : k = n := by omega
        have e0 : An.leastP m (L.take k) = F := by rw [HF.out, List.take_of_length_le (by rw [HN.out]; exact Nat.le_refl _)]
        rw [e0]
        clear e0
        go_wp2
        go_ret
        exact ⟨rfl, HB.out⟩
set_option maxRecDepth 100000 in
set_option maxHeartbeats 4000000 in
theorem asHorizon {w : World} {vt vp : Value} {T : List Row3} {P : List Row2} (ht : Elems w vt T.length (rows3 T)) (hp : Elems w vp P.length (rows2 P)) (check : Int) :
    Calls Try.prog 13 #[.int .i64 check, vt, vp] w fun e w' => e = .returned (.int .i64 (An.horizon check T P)) ∧ Below w.heap.size w w' := by
  have hm := ht.le
  have hm2 := hp.le
  unfold maxLen at hm hm2
  have HT := Lib.hid ht
  have HP := Lib.hid hp
  obtain ⟨ta, tc, rfl⟩ := ht.form
  obtain ⟨pa, pc, rfl⟩ := hp.form
  clear ht hp
  by_cases h0 : check = 0
  · subst h0
    have HF : Hid (An.horizon 0 T P = 0) := rfl
    go_enter Try.func13, Try.ntmps13
    go_wp2
    go_ret
    exact ⟨by rw [HF.out]; rfl, Below.refl _ _⟩
  · have HF : Hid (An.horizon check T P = An.leastP (An.leastT check T) P) := by unfold An.horizon; rw [if_neg h0]; rfl
    obtain ⟨F, hF⟩ : ∃ F, An.horizon check T P = F := ⟨_, rfl⟩
    rw [hF] at HF ⊢
    clear hF
    obtain ⟨n, hn⟩ : ∃ n, T.length = n := ⟨_, rfl⟩
    rw [hn] at hm ⊢
    have HN := Lib.hid hn
    obtain ⟨u, hu⟩ : ∃ u, P.length = u := ⟨_, rfl⟩
    rw [hu] at hm2 ⊢
    have HU := Lib.hid hu
    clear hn hu
    go_enter Try.func13, Try.ntmps13
    go_wp2_with fail
    go_loopw [7, 17] (fun vm vi wr => ∃ k : Nat, vi = .int .i64 k ∧ k ≤ n ∧ vm = .int .i64 (An.leastT check (T.take k)) ∧ Below w.heap.size w wr) (fun _ vi _ => n - (intOf vi).toNat)
    case atStart => exact ⟨0, rfl, Nat.zero_le _, rfl, Below.refl _ _⟩
    case round =>
      obtain ⟨k, rfl, hk, rfl, hB⟩ := hrel
      have HB := Lib.hid hB
      clear hB
      by_cases hlt : k < n
      · have hkn : k < T.length := by rw [HN.out]; exact hlt
        obtain ⟨b, off, cap, e0, _, _, hbl, hc⟩ := Elems.at3 (l := T) (HT.out.keep HB.out) (fun e => by rw [e] at hkn; simp at hkn)
        rw [HN.out] at e0
        obtain ⟨rfl, _, rfl⟩ := Value.slice.inj e0
        obtain ⟨x0, x1, x2⟩ := hc k hkn
        have HTT := Lib.hid (leastT_take check T k hkn)
        obtain ⟨t, ht⟩ : ∃ t, t = T[k].1 := ⟨_, rfl⟩
        obtain ⟨f, hf⟩ : ∃ f, f = T[k].2.1 := ⟨_, rfl⟩
        obtain ⟨l, hl⟩ : ∃ l, l = T[k].2.2 := ⟨_, rfl⟩
        rw [← ht] at x0
        rw [← hf] at x1 HTT
        rw [← hl] at x2
        clear ht hf hl hc e0 hkn
        obtain ⟨q, hq⟩ : ∃ q, q = An.leastT check (T.take k) := ⟨_, rfl⟩
        rw [← hq] at HTT ⊢
        clear hq
        obtain ⟨q2, hq2⟩ : ∃ q2, min q f = q2 := ⟨_, rfl⟩
        rw [hq2] at HTT
        have rm := min_runL q f
        rw [hq2] at rm
        clear hq2
        go_wp2
        refine ⟨⟨k + 1, by simp, hlt, by rw [HTT.out], ?_⟩, by simp [intOf]; omega⟩
        exact HB.out.alloc HB.out.size _
      · obtain rfl : k = n := by omega
        have e0 : An.leastT check (T.take k) = An.leastT check T := by rw [List.take_of_length_le (by rw [HN.out]; exact Nat.le_refl _)]
        rw [e0]
        clear e0
        obtain ⟨c, hc⟩ : ∃ c, An.leastT check T = c := ⟨_, rfl⟩
        rw [hc] at HF ⊢
        clear hc
        go_wp2_with fail
        go_loopw [7, 28] (fun vm vi wr => ∃ j : Nat, vi = .int .i64 j ∧ j ≤ u ∧ vm = .int .i64 (An.leastP c (P.take j)) ∧ Below w.heap.size w wr) (fun _ vi _ => u - (intOf vi).toNat)
        case atStart => exact ⟨0, rfl, Nat.zero_le _, rfl, HB.out⟩
        case round =>
          obtain ⟨j, rfl, hj, rfl, hB⟩ := hrel
          have HB := Lib.hid hB
          clear hB
          by_cases hlt2 : j < u
          · have hkn : j < P.length := by rw [HU.out]; exact hlt2
            obtain ⟨b, off, cap, e0, _, _, hbl, hc⟩ := Elems.at2 (l := P) (HP.out.keep HB.out) (fun e => by rw [e] at hkn; simp at hkn)
            rw [HU.out] at e0
            obtain ⟨rfl, _, rfl⟩ := Value.slice.inj e0
            obtain ⟨x0, x1⟩ := hc j hkn
            have HTT := Lib.hid (leastP_take c P j hkn)
            obtain ⟨t, ht⟩ : ∃ t, t = P[j].1 := ⟨_, rfl⟩
            obtain ⟨f, hf⟩ : ∃ f, f = P[j].2 := ⟨_, rfl⟩
            rw [← ht] at x0
            rw [← hf] at x1 HTT
            clear ht hf hc e0 hkn
            obtain ⟨q, hq⟩ : ∃ q, q = An.leastP c (P.take j) := ⟨_, rfl⟩
            rw [← hq] at HTT ⊢
            clear hq
            obtain ⟨q2, hq2⟩ : ∃ q2, min q f = q2 := ⟨_, rfl⟩
            rw [hq2] at HTT
            have rm := min_runL q f
            rw [hq2] at rm
            clear hq2
            go_wp2
            refine ⟨⟨j + 1, by simp, hlt2, by rw [HTT.out], ?_⟩, by simp [intOf]; omega⟩
            exact HB.out.alloc HB.out.size _
          · obtain rfl : j = u := by omega
            have e0 : An.leastP c (P.take j) = F := by rw [HF.out, List.take_of_length_le (by rw [HU.out]; exact Nat.le_refl _)]
            rw [e0]
            clear e0
            go_wp2
            go_ret
            exact ⟨rfl, HB.out⟩
end Go.Proofs.Ytgjkhjlobfblcaa
