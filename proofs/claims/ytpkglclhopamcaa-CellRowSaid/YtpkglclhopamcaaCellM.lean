/- The statement CellRow, walked. -/
import Derived.Test.YtpkglclhopamcaaCellL
import Derived.Test.YtpkglclhopamcaaRegion
namespace Go.Proofs.Ytpkglclhopamcaa
open Go.RowKit

set_option maxRecDepth 100000 in
set_option maxHeartbeats 4000000 in
theorem cellRow_let (a : Option Addr) (n cap : Nat) (w : World) (hl : ((n : Int) == 0) = true ∨ ((n : Int) == 0) = false ∧ (300 : Int) < n) : Calls Try.prog 10 #[.slice a n cap] w fun e w' => e = .returned (.bool true) ∧ Below w.heap.size w w' := by
  rcases hl with hl | ⟨hl, hl2⟩
  all_goals
    go_enter Try.func10, Try.ntmps10
    go_wp2_with fail
    refine (awake_any _).mono ?_
    rintro e w1 ⟨rfl, hb1⟩
    go_wp2_with fail
    refine (awake_any _).mono ?_
    rintro e w2 ⟨rfl, hb2⟩
    go_wp2
    go_ret
    exact ⟨rfl, below2 hb1 hb2⟩

set_option maxRecDepth 100000 in
set_option maxHeartbeats 4000000 in
theorem cellRow_core (b off cap k : Nat) (xs : List Nat) (x s0 : Nat) (w : World) (hk : xs.length = k + 1) (hl : (k : Int) + 1 ≤ 300) (hcap : k + 1 ≤ cap) (hblk : b < w.heap.size) (hr : Reads w (.slice (some ⟨b, off, none⟩) (k + 1) cap) (floatsV xs))
    (hr2 : Reads w (.slice (some ⟨b, off, none⟩) k cap) (floatsV (xs.take k))) (hc : w.cell? ⟨b, off + k, none⟩ = some (.float .f64 x)) (h0 : sumF (xs.take k) = s0) (h1 : sumF xs = Flt.addC s0 x) :
    Calls Try.prog 10 #[.slice (some ⟨b, off, none⟩) (k + 1 : Nat) cap] w fun e w' => e = .returned (.bool true) ∧ Below w.heap.size w w' := by
  have hc0 : Flt.canon s0 = s0 := by rw [← h0]; exact canon_sumF _
  have hs0 : s0 < 2 ^ 64 := by
    rw [← h0]
    rcases List.eq_nil_or_concat (xs.take k) with e | ⟨l, y, e⟩
    · rw [e]; decide
    · rw [e, List.concat_eq_append, sumF_snoc]; exact Flt.addC_lt _ _
  have K1 := fun W (hb : Below w.heap.size w W) => sum_lit W (hr2.keep hb) s0 (by simp; omega) h0
  have K2 := fun W => bytes_aux s0 s0 hc0 W
  have K3 := fun W => add_aux (cellOf s0) x (Flt.addC s0 x) W rfl (by rw [num8_cellOf _ hs0])
  have K4 := fun W (hb : Below w.heap.size w W) => sum_lit W (hr.keep hb) (Flt.addC s0 x) (by omega) h1
  have K5 := fun W => bytes_aux (Flt.addC s0 x) (Flt.addC s0 x) (Flt.canon_addC _ _) W
  generalize Flt.addC s0 x = t at *
  have H1 := Lib.hid K1
  have H2 := Lib.hid K2
  have H3 := Lib.hid K3
  have H4 := Lib.hid K4
  have H5 := Lib.hid K5
  have HC := Lib.hid hc
  have hk0 : (((k : Int) + 1) == 0) = false := by simp; omega
  clear K1 K2 K3 K4 K5 hc hr hr2 h0 h1 hc0 hs0 hk
  go_enter Try.func10, Try.ntmps10
  go_wp2_with fail
  refine (awake_any _).mono ?_
  rintro e w1 ⟨rfl, hb1⟩
  go_wp2_with fail
  refine' wp_region_conf 15 [.is _, .is _, .is _, .is _, .is _, .is _, .is _, .is _, .is _, .is _, .is _, .is _, .is _, .is _, .is _] (by kernel_rfl) (by kernel_rfl) (by kernel_rfl) (by kernel_rfl) rfl ?main
  case main =>
    iterate 15
      refine obs_is (fun w2 hE2 _ => ?_) ?_
      · have hB2 : Below w.heap.size w w2 := hb1.drew.trans (hE2.mono hb1.size)
        have c2 := (hB2.cell (p := ⟨b, off + k, none⟩) hblk).trans HC.out
        go_wp2_with (first
          | (go_at_call 23; refine (H1.out _ hB2).mono ?_; rintro e w3 ⟨rfl, hb3⟩)
          | (go_at_call 13; refine (H2.out _).mono ?_; rintro e w3 ⟨rfl, hb3⟩)
          | (go_at_call 18; refine (H3.out _).mono ?_; rintro e w3 ⟨rfl, hb3⟩))
        first | exact post_is hb3 | exact post_is (Below.refl _ _)
      simp only [Act.put, List.setIfInBounds_toArray, List.set_cons_zero, List.set_cons_succ]
    refine obs_end fun w3 hE3 _ => ?_
    have hB3 : Below w.heap.size w w3 := hb1.drew.trans (hE3.mono hb1.size)
    go_wp2_with fail
    refine (H4.out _ hB3).mono ?_
    rintro e w4 ⟨rfl, hb4⟩
    go_wp2_with fail
    refine (H5.out _).mono ?_
    rintro e w5 ⟨rfl, hb5⟩
    go_wp2
    go_ret
    exact ⟨rfl, (hB3.trans (hb4.mono hB3.size)).trans (hb5.mono (by have := hB3.size; have := hb4.size; omega))⟩

theorem Reads.take {w : World} {b off cap : Nat} {vs : List Value} {n : Nat} (h : Reads w (.slice (some ⟨b, off, none⟩) n cap) vs) (k : Nat) (hk : k ≤ vs.length) : Reads w (.slice (some ⟨b, off, none⟩) k cap) (vs.take k) := by
  obtain ⟨a, cap', e, hc, hx⟩ := h
  simp only [Value.slice.injEq] at e
  obtain ⟨e1, rfl, rfl⟩ := e
  subst e1
  refine ⟨_, cap, by rw [List.length_take, Nat.min_eq_left hk], by rw [List.length_take]; omega, fun j x hj => ?_⟩
  rw [List.getElem?_take] at hj
  split at hj
  · exact hx j x hj
  · cases hj

theorem walkCellRow (v : Value) (xs : List Nat) (w : World) (hr : Reads w v (xs.map (Value.float .f64))) (_ : ∀ x ∈ xs, x < 2 ^ 64) : Calls Try.prog 10 #[v] w fun e w' => e = .returned (.bool true) ∧ Below w.heap.size w w' := by
  change Reads w v (floatsV xs) at hr
  rcases hr.cases with ⟨h0, a, cap, rfl⟩ | ⟨b, off, cap, rfl, hpos, hcap, hblk, hc⟩
  · exact cellRow_let a 0 cap w (.inl rfl)
  · rw [floatsV_len] at hpos hcap hr ⊢
    by_cases hl : xs.length ≤ 300
    · obtain ⟨k, hk⟩ : ∃ k, xs.length = k + 1 := ⟨xs.length - 1, by omega⟩
      have hklt : k < xs.length := by omega
      have ht := hr.take k (by rw [floatsV_len]; omega)
      rw [show (floatsV xs).take k = floatsV (xs.take k) from by simp [floatsV, List.map_take]] at ht
      rw [hk] at hr hcap ⊢
      refine cellRow_core b off cap k xs xs[k] _ w hk (by omega) hcap hblk hr ht (hc k _ (by simp [floatsV, hklt])) rfl ?_
      rw [← sumF_take xs k hklt, List.take_of_length_le (by omega)]
    · exact cellRow_let _ _ _ w (.inr ⟨by rw [beq_eq_false_iff_ne]; omega, by omega⟩)
end Go.Proofs.Ytpkglclhopamcaa
