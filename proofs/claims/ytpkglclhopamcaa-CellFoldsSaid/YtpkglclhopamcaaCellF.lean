/- Package cell: lists of floats: their sum, and the one that stands last; the document's own likewise. -/
import Derived.Test.YtpkglclhopamcaaCellE
import Derived.Test.YtpkglclhopamcaaLists
namespace Go.Proofs.Ytpkglclhopamcaa
open Go.RowKit

def floatsV (xs : List Nat) : List Value := xs.map (Value.float .f64)
theorem floatsV_len (xs : List Nat) : (floatsV xs).length = xs.length := by simp [floatsV]
def sumF (xs : List Nat) : Nat := xs.foldl Flt.addC 0
theorem sumF_snoc (xs : List Nat) (x : Nat) : sumF (xs ++ [x]) = Flt.addC (sumF xs) x := by simp [sumF]
theorem take_snoc_nat (xs : List Nat) (k : Nat) (h : k < xs.length) : xs.take (k + 1) = xs.take k ++ [xs[k]] := List.take_succ_eq_append_getElem h
theorem sumF_take (xs : List Nat) (k : Nat) (h : k < xs.length) : sumF (xs.take (k + 1)) = Flt.addC (sumF (xs.take k)) xs[k] := by rw [take_snoc_nat xs k h, sumF_snoc]
theorem canon_sumF (xs : List Nat) : Flt.canon (sumF xs) = sumF xs := by
  rcases List.eq_nil_or_concat xs with rfl | ⟨l, x, rfl⟩
  · decide +kernel
  · rw [List.concat_eq_append, sumF_snoc, Flt.canon_addC]

set_option maxRecDepth 100000 in
set_option maxHeartbeats 1000000 in
theorem sum_any (v : Value) (xs : List Nat) (w : World) (hr : Reads w v (floatsV xs)) (hm : xs.length ≤ 1000000) :
    Calls Try.prog 23 #[v] w fun e w' => e = .returned (.float .f64 (sumF xs)) ∧ Below w.heap.size w w' := by
  rcases hr.cases with ⟨h0, a, cap, rfl⟩ | ⟨b, off, cap, rfl, hpos, hcap, hlt, hc⟩
  · obtain rfl : xs = [] := by simpa [floatsV] using h0
    clear hr h0
    go_enter Try.func23, Try.ntmps23
    go_wp2
    refine wp_loop_rounds 1 ?_
    rw [rounds_succ]
    go_wp2_with fail
    refine (canonical_any _ _).mono ?_
    rintro e w1 ⟨rfl, rfl⟩
    go_wp2
    go_ret
    exact ⟨rfl, Below.refl _ _⟩
  · rw [floatsV_len] at hpos hcap ⊢
    have HC := Lib.hid hc
    clear hc hr
    go_enter Try.func23, Try.ntmps23
    go_wp2
    go_loopw [3, 8] (fun s i wr => ∃ (k r : Nat), k ≤ xs.length ∧ i = .int .i64 k ∧ s = .float .f64 r ∧ Hid (Flt.canon r = sumF (xs.take k)) ∧ Below w.heap.size w wr) (fun _ i _ => xs.length - (intOf i).toNat)
    case atStart => exact ⟨0, 0, Nat.zero_le _, rfl, rfl, (show Flt.canon 0 = sumF [] by decide +kernel), Below.refl _ _⟩
    case round =>
      obtain ⟨k, r, hk, rfl, rfl, hS, hB⟩ := hrel
      by_cases h : k < xs.length
      · have hcell : wr.cell? ⟨b, off + k, none⟩ = some (.float .f64 xs[k]) := (hB.cell (p := ⟨b, off + k, none⟩) hlt).trans (HC.out k _ (by simp [floatsV, h]))
        obtain ⟨r', w1, hrun, hcan, hd⟩ := add_run r xs[k] wr
        have hS' : Hid (Flt.canon r' = sumF (xs.take (k + 1))) := by
          show _ = _
          rw [hcan, sumF_take xs k h, ← hS.out, Flt.addC_canon]
        have hB' := below_drawn hB hd
        clear hcan hd hB
        go_wp2
        go_roundw
        case rel => exact ⟨k + 1, r', by omega, by go_num, rfl, hS', hB'⟩
        case measure => simp [intOf]; omega
      · have hS' : Hid (Flt.canon r = sumF xs) := by
          show _ = _
          rw [hS.out, List.take_of_length_le (by omega)]
        go_wp2_with fail
        refine (canonical_any _ _).mono ?_
        rintro e w1 ⟨rfl, rfl⟩
        rw [hS'.out]
        go_wp2
        go_ret
        exact ⟨rfl, hB⟩
set_option maxRecDepth 100000 in
set_option maxHeartbeats 1000000 in
theorem refSum_any (v : Value) (xs : List Nat) (w : World) (hr : Reads w v (floatsV xs)) (hm : xs.length ≤ 1000000) :
    Calls Try.prog 24 #[v] w fun e w' => e = .returned (.float .f64 (sumF xs)) ∧ Below w.heap.size w w' := by
  rcases hr.cases with ⟨h0, a, cap, rfl⟩ | ⟨b, off, cap, rfl, hpos, hcap, hlt, hc⟩
  · obtain rfl : xs = [] := by simpa [floatsV] using h0
    clear hr h0
    go_enter Try.func24, Try.ntmps24
    go_wp2
    refine wp_loop_rounds 1 ?_
    rw [rounds_succ]
    go_wp2_with fail
    refine (refBits_any _ _).mono ?_
    rintro e w1 ⟨rfl, rfl⟩
    go_wp2
    go_ret
    exact ⟨rfl, Below.refl _ _⟩
  · rw [floatsV_len] at hpos hcap ⊢
    have HC := Lib.hid hc
    clear hc hr
    go_enter Try.func24, Try.ntmps24
    go_wp2
    go_loopw [3, 4] (fun s i wr => ∃ (k r : Nat), k ≤ xs.length ∧ i = .int .i64 k ∧ s = .float .f64 r ∧ Hid (Flt.canon r = sumF (xs.take k)) ∧ Below w.heap.size w wr) (fun _ i _ => xs.length - (intOf i).toNat)
    case atStart => exact ⟨0, 0, Nat.zero_le _, rfl, rfl, (show Flt.canon 0 = sumF [] by decide +kernel), Below.refl _ _⟩
    case round =>
      obtain ⟨k, r, hk, rfl, rfl, hS, hB⟩ := hrel
      by_cases h : k < xs.length
      · have hcell : wr.cell? ⟨b, off + k, none⟩ = some (.float .f64 xs[k]) := (hB.cell (p := ⟨b, off + k, none⟩) hlt).trans (HC.out k _ (by simp [floatsV, h]))
        obtain ⟨r', w1, hrun, hcan, hd⟩ := add_run r xs[k] wr
        have hS' : Hid (Flt.canon r' = sumF (xs.take (k + 1))) := by
          show _ = _
          rw [hcan, sumF_take xs k h, ← hS.out, Flt.addC_canon]
        have hB' := below_drawn hB hd
        clear hcan hd hB
        go_wp2
        go_roundw
        case rel => exact ⟨k + 1, r', by omega, by go_num, rfl, hS', hB'⟩
        case measure => simp [intOf]; omega
      · have hS' : Hid (Flt.canon r = sumF xs) := by
          show _ = _
          rw [hS.out, List.take_of_length_le (by omega)]
        go_wp2_with fail
        refine (refBits_any _ _).mono ?_
        rintro e w1 ⟨rfl, rfl⟩
        rw [hS'.out]
        go_wp2
        go_ret
        exact ⟨rfl, hB⟩
end Go.Proofs.Ytpkglclhopamcaa
