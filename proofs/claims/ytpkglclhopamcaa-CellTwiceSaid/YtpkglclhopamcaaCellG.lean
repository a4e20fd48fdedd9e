/- Package cell: the one of a list that stands last; the document's own likewise. -/
import Derived.Test.YtpkglclhopamcaaCellF
namespace Go.Proofs.Ytpkglclhopamcaa
open Go.RowKit

/-- The one that stands last of a list, beginning with the infinity below. -/
def mostF (xs : List Nat) : Nat := xs.foldl (fun m x => if 0 < Flt.ord x m then x else m) 18442240474082181120
theorem mostF_take (xs : List Nat) (k : Nat) (h : k < xs.length) : mostF (xs.take (k + 1)) = if 0 < Flt.ord xs[k] (mostF (xs.take k)) then xs[k] else mostF (xs.take k) := by
  unfold mostF
  rw [take_snoc_nat xs k h, List.foldl_append]
  rfl
theorem mostF_lt (xs : List Nat) (hx : ∀ x ∈ xs, x < 2 ^ 64) : mostF xs < 2 ^ 64 := by
  have key : ∀ (l : List Nat) (m : Nat), (∀ x ∈ l, x < 2 ^ 64) → m < 2 ^ 64 → l.foldl (fun m x => if 0 < Flt.ord x m then x else m) m < 2 ^ 64 := by
    intro l
    induction l with
    | nil => intro m _ h; exact h
    | cons y ys ih =>
      intro m hl h
      rw [List.foldl_cons]
      refine ih _ (fun x hx => hl x (by simp [hx])) ?_
      split
      · exact hl y (by simp)
      · exact h
  exact key xs _ hx (by decide)

set_option maxRecDepth 100000 in
set_option maxHeartbeats 1000000 in
theorem most_any (v : Value) (xs : List Nat) (w : World) (hr : Reads w v (floatsV xs)) (hm : xs.length ≤ 1000000) (hx : ∀ x ∈ xs, x < 2 ^ 64) :
    Calls Try.prog 21 #[v] w fun e w' => e = .returned (.float .f64 (Flt.canon (mostF xs))) ∧ w = w' := by
  rcases hr.cases with ⟨h0, a, cap, rfl⟩ | ⟨b, off, cap, rfl, hpos, hcap, hlt, hc⟩
  · obtain rfl : xs = [] := by simpa [floatsV] using h0
    clear hr h0
    go_enter Try.func21, Try.ntmps21
    go_wp2_with (go_at_call 26; refine (inf_any _ _).mono ?_; rintro e w1 ⟨rfl, rfl⟩)
    refine wp_loop_rounds 1 ?_
    rw [rounds_succ]
    go_wp2_with fail
    refine (canonical_any _ _).mono ?_
    rintro e w1 ⟨rfl, rfl⟩
    go_wp2
    go_ret
    exact ⟨rfl, rfl⟩
  · rw [floatsV_len] at hpos hcap ⊢
    have HC := Lib.hid hc
    have HX := Lib.hid hx
    clear hc hr hx
    go_enter Try.func21, Try.ntmps21
    go_wp2_with (go_at_call 26; refine (inf_any _ _).mono ?_; rintro e w1 ⟨rfl, rfl⟩)
    go_loop [3, 9] (fun s i => ∃ (k m : Nat), k ≤ xs.length ∧ i = .int .i64 k ∧ s = .float .f64 m ∧ Hid (m = mostF (xs.take k))) (fun _ i => xs.length - (intOf i).toNat)
    case atStart => exact ⟨0, _, Nat.zero_le _, rfl, rfl, rfl⟩
    case round =>
      obtain ⟨k, m, hk, rfl, rfl, hS⟩ := hrel
      by_cases h : k < xs.length
      · have hcell : w.cell? ⟨b, off + k, none⟩ = some (.float .f64 xs[k]) := HC.out k _ (by simp [floatsV, h])
        have hx1 := HX.out xs[k] (List.getElem_mem h)
        have hm1 : m < 2 ^ 64 := by rw [hS.out]; exact mostF_lt _ (fun x hx => HX.out x (List.mem_of_mem_take hx))
        have hT := mostF_take xs k h
        rw [← hS.out] at hT
        have hO := order_any xs[k] m hx1 hm1
        generalize Flt.ord xs[k] m = o at *
        have HO := Lib.hid hO
        clear hx1 hm1 hO
        by_cases ho : 0 < o
        · rw [if_pos ho] at hT
          have HT := Lib.hid hT
          clear hT
          go_wp2_with (go_at_call 19; refine (HO.out _).mono ?_; rintro e w1 ⟨rfl, rfl⟩)
          go_round
          case rel => exact ⟨k + 1, _, by omega, by go_num, rfl, HT.out.symm⟩
          case measure => simp [intOf]; omega
        · rw [if_neg ho] at hT
          have HT := Lib.hid hT
          clear hT
          go_wp2_with (go_at_call 19; refine (HO.out _).mono ?_; rintro e w1 ⟨rfl, rfl⟩)
          go_round
          case rel => exact ⟨k + 1, _, by omega, by go_num, rfl, HT.out.symm⟩
          case measure => simp [intOf]; omega
      · have hS' : Hid (m = mostF xs) := by
          show _ = _
          rw [hS.out, List.take_of_length_le (by omega)]
        go_wp2_with fail
        refine (canonical_any _ _).mono ?_
        rintro e w1 ⟨rfl, rfl⟩
        rw [hS'.out]
        go_wp2
        go_ret
        exact ⟨rfl, rfl⟩

set_option maxRecDepth 100000 in
set_option maxHeartbeats 1000000 in
theorem refMost_any (v : Value) (xs : List Nat) (w : World) (hr : Reads w v (floatsV xs)) (hm : xs.length ≤ 1000000) (hx : ∀ x ∈ xs, x < 2 ^ 64) :
    Calls Try.prog 22 #[v] w fun e w' => e = .returned (.float .f64 (Flt.canon (mostF xs))) ∧ w = w' := by
  rcases hr.cases with ⟨h0, a, cap, rfl⟩ | ⟨b, off, cap, rfl, hpos, hcap, hlt, hc⟩
  · obtain rfl : xs = [] := by simpa [floatsV] using h0
    clear hr h0
    go_enter Try.func22, Try.ntmps22
    go_wp2_with (go_at_call 26; refine (inf_any _ _).mono ?_; rintro e w1 ⟨rfl, rfl⟩)
    refine wp_loop_rounds 1 ?_
    rw [rounds_succ]
    go_wp2_with fail
    refine (refBits_any _ _).mono ?_
    rintro e w1 ⟨rfl, rfl⟩
    go_wp2
    go_ret
    exact ⟨rfl, rfl⟩
  · rw [floatsV_len] at hpos hcap ⊢
    have HC := Lib.hid hc
    have HX := Lib.hid hx
    clear hc hr hx
    go_enter Try.func22, Try.ntmps22
    go_wp2_with (go_at_call 26; refine (inf_any _ _).mono ?_; rintro e w1 ⟨rfl, rfl⟩)
    go_loop [3, 4] (fun s i => ∃ (k m : Nat), k ≤ xs.length ∧ i = .int .i64 k ∧ s = .float .f64 m ∧ Hid (m = mostF (xs.take k))) (fun _ i => xs.length - (intOf i).toNat)
    case atStart => exact ⟨0, _, Nat.zero_le _, rfl, rfl, rfl⟩
    case round =>
      obtain ⟨k, m, hk, rfl, rfl, hS⟩ := hrel
      by_cases h : k < xs.length
      · have hcell : w.cell? ⟨b, off + k, none⟩ = some (.float .f64 xs[k]) := HC.out k _ (by simp [floatsV, h])
        have hx1 := HX.out xs[k] (List.getElem_mem h)
        have hm1 : m < 2 ^ 64 := by rw [hS.out]; exact mostF_lt _ (fun x hx => HX.out x (List.mem_of_mem_take hx))
        have hT := mostF_take xs k h
        rw [← hS.out] at hT
        have hO := refOrder_any xs[k] m hx1 hm1
        generalize Flt.ord xs[k] m = o at *
        have HO := Lib.hid hO
        clear hx1 hm1 hO
        by_cases ho : 0 < o
        · rw [if_pos ho] at hT
          have HT := Lib.hid hT
          clear hT
          go_wp2_with (go_at_call 20; refine (HO.out _).mono ?_; rintro e w1 ⟨rfl, rfl⟩)
          go_round
          case rel => exact ⟨k + 1, _, by omega, by go_num, rfl, HT.out.symm⟩
          case measure => simp [intOf]; omega
        · rw [if_neg ho] at hT
          have HT := Lib.hid hT
          clear hT
          go_wp2_with (go_at_call 20; refine (HO.out _).mono ?_; rintro e w1 ⟨rfl, rfl⟩)
          go_round
          case rel => exact ⟨k + 1, _, by omega, by go_num, rfl, HT.out.symm⟩
          case measure => simp [intOf]; omega
      · have hS' : Hid (m = mostF xs) := by
          show _ = _
          rw [hS.out, List.take_of_length_le (by omega)]
        go_wp2_with fail
        refine (refBits_any _ _).mono ?_
        rintro e w1 ⟨rfl, rfl⟩
        rw [hS'.out]
        go_wp2
        go_ret
        exact ⟨rfl, rfl⟩

end Go.Proofs.Ytpkglclhopamcaa
