/- The statements CellFolds and CellMost, walked. -/
import Derived.Test.YtpkglclhopamcaaCellK
namespace Go.Proofs.Ytpkglclhopamcaa
open Go.RowKit

set_option maxRecDepth 100000 in
set_option maxHeartbeats 4000000 in
theorem walkCellFolds (v : Value) (xs : List Nat) (w : World) (hr : Reads w v (xs.map (Value.float .f64))) (hx : ∀ x ∈ xs, x < 2 ^ 64) : Calls Try.prog 6 #[v] w fun e w' => e = .returned (.bool true) ∧ Below w.heap.size w w' := by
  change Reads w v (floatsV xs) at hr
  obtain ⟨a, cap, rfl, _⟩ := id hr
  rw [floatsV_len] at hr ⊢
  have HR := Lib.hid hr
  have HX := Lib.hid hx
  clear hr hx
  by_cases hl : (300 : Int) < xs.length
  · go_enter Try.func6, Try.ntmps6
    go_wp2_with fail
    refine (awake_any _).mono ?_
    rintro e w1 ⟨rfl, hb1⟩
    go_wp2_with fail
    refine (awake_any _).mono ?_
    rintro e w2 ⟨rfl, hb2⟩
    go_wp2
    go_ret
    exact ⟨rfl, below2 hb1 hb2⟩
  · have hm : xs.length ≤ 1000000 := by omega
    go_enter Try.func6, Try.ntmps6
    go_wp2_with fail
    refine (awake_any _).mono ?_
    rintro e w1 ⟨rfl, hb1⟩
    go_wp2_with fail
    refine (most_any _ xs _ (HR.out.keep hb1) hm HX.out).mono ?_
    rintro e w2 ⟨rfl, rfl⟩
    go_wp2_with fail
    refine (refMost_any _ xs _ (HR.out.keep hb1) hm HX.out).mono ?_
    rintro e w2 ⟨rfl, rfl⟩
    go_wp2_with fail
    refine (sum_any _ xs _ (HR.out.keep hb1) hm).mono ?_
    rintro e w2 ⟨rfl, hb2⟩
    go_wp2_with fail
    refine (refSum_any _ xs _ (HR.out.keep (below2 hb1 hb2)) hm).mono ?_
    rintro e w3 ⟨rfl, hb3⟩
    go_wp2
    go_ret
    exact ⟨rfl, below2 (below2 hb1 hb2) hb3⟩

/-- The one that stands last: nothing stands behind it, and it is one of them, or the infinity below. -/
theorem mostF_max (xs : List Nat) : (∀ x ∈ xs, Flt.key x ≤ Flt.key (mostF xs)) ∧ (mostF xs = 18442240474082181120 ∨ mostF xs ∈ xs) := by
  have key : ∀ (l : List Nat) (m : Nat), (∀ x ∈ l, Flt.key x ≤ Flt.key (l.foldl (fun m x => if 0 < Flt.ord x m then x else m) m)) ∧ Flt.key m ≤ Flt.key (l.foldl (fun m x => if 0 < Flt.ord x m then x else m) m) ∧
      (l.foldl (fun m x => if 0 < Flt.ord x m then x else m) m = m ∨ l.foldl (fun m x => if 0 < Flt.ord x m then x else m) m ∈ l) := by
    intro l
    induction l with
    | nil => intro m; exact ⟨fun x hx => (by cases hx), Int.le_refl _, .inl rfl⟩
    | cons y ys ih =>
      intro m
      rw [List.foldl_cons]
      have hp := ord_pos y m
      by_cases h : 0 < Flt.ord y m
      · rw [if_pos h]
        obtain ⟨i1, i2, i3⟩ := ih y
        refine ⟨fun x hx => ?_, by have := hp.1 h; omega, ?_⟩
        · rcases List.mem_cons.1 hx with rfl | hx
          · exact i2
          · exact i1 x hx
        · rcases i3 with i3 | i3
          · right; rw [i3]; simp
          · right; simp [i3]
      · rw [if_neg h]
        obtain ⟨i1, i2, i3⟩ := ih m
        refine ⟨fun x hx => ?_, i2, ?_⟩
        · rcases List.mem_cons.1 hx with rfl | hx
          · have : ¬ Flt.key m < Flt.key x := fun c => h (hp.2 c)
            omega
          · exact i1 x hx
        · rcases i3 with i3 | i3
          · left; exact i3
          · right; simp [i3]
  obtain ⟨h1, _, h3⟩ := key xs 18442240474082181120
  exact ⟨h1, h3⟩
theorem ord_canon_right (x m : Nat) : Flt.ord x (Flt.canon m) = Flt.ord x m := by unfold Flt.ord; rw [key_canon]

/-- Found among the first k, or at the outset. -/
def foundAt (f0 : Bool) (xs : List Nat) (m k : Nat) : Bool := f0 || (xs.take k).any fun x => Flt.ord x m == 0
theorem foundAt_succ (f0 : Bool) (xs : List Nat) (m k : Nat) (h : k < xs.length) : foundAt f0 xs m (k + 1) = (foundAt f0 xs m k || (Flt.ord xs[k] m == 0)) := by
  unfold foundAt
  rw [take_snoc_nat xs k h, List.any_append]
  simp [Bool.or_assoc]

set_option maxRecDepth 100000 in
set_option maxHeartbeats 4000000 in
/-- m: the one that was found last; f0: what is known ahead of the loop. -/
theorem cellMost_core (b off cap : Nat) (xs : List Nat) (m : Nat) (w : World) (hpos : 0 < xs.length) (hl : (xs.length : Int) ≤ 300) (hblk : b < w.heap.size) (hr : Reads w (.slice (some ⟨b, off, none⟩) xs.length cap) (floatsV xs))
    (hc : ∀ j x, (floatsV xs)[j]? = some x → w.cell? ⟨b, off + j, none⟩ = some x) (hx : ∀ x ∈ xs, x < 2 ^ 64) (hm : Flt.canon (mostF xs) = m) (hcm : Flt.canon m = m) (hmx : ∀ x ∈ xs, ¬ 0 < Flt.ord x m)
    (f0 : Bool) (hf0 : ((m : Int) == 18442240474082181120) = f0) (hfin : foundAt f0 xs m xs.length = true) :
    Calls Try.prog 9 #[.slice (some ⟨b, off, none⟩) xs.length cap] w fun e w' => e = .returned (.bool true) ∧ Below w.heap.size w w' := by
  have hm' : m < 2 ^ 64 := by rw [← hm]; exact Flt.canon_lt (mostF_lt xs hx)
  have HR := Lib.hid hr
  have HX := Lib.hid hx
  have HC := Lib.hid hc
  have HM := Lib.hid hm
  have HM' := Lib.hid hm'
  have HMX := Lib.hid hmx
  have HF := Lib.hid hfin
  have hni : Flt.canon 18442240474082181120 = 18442240474082181120 := by decide +kernel
  clear hr hx hc hm hm' hmx hfin
  have hlm : xs.length ≤ 1000000 := by omega
  have hne : ¬ xs = [] := by rintro rfl; simp at hpos
  have hl0 : ((xs.length : Int) == 0) = false := by simpa using hne
  obtain ⟨ff, hff⟩ : ∃ ff, ff = f0 := ⟨_, rfl⟩
  rw [← hff] at HF
  have HF0 : Hid (foundAt ff xs m 0 = f0) := by show _ = _; simp [foundAt, hff]
  clear hff
  cases f0
  all_goals
    go_enter Try.func9, Try.ntmps9
    go_wp2_with fail
    refine (awake_any _).mono ?_
    rintro e w1 ⟨rfl, hb1⟩
    go_wp2_with fail
    refine (most_any _ xs _ (HR.out.keep hb1) hlm HX.out).mono ?_
    rintro e w2 ⟨rfl, rfl⟩
    rw [HM.out]
    go_wp2_with (first
      | (go_at_call 15; refine (refBits_any _ _).mono ?_; rintro e w2 ⟨rfl, rfl⟩)
      | (go_at_call 26; refine (inf_any _ _).mono ?_; rintro e w2 ⟨rfl, rfl⟩))
    clear hni hcm hf0
    go_loop [4, 29] (fun f i => ∃ k : Nat, k ≤ xs.length ∧ i = .int .i64 k ∧ ∃ g : Bool, f = .bool g ∧ Hid (foundAt ff xs m k = g)) (fun _ i => xs.length - (intOf i).toNat)
    case atStart => exact ⟨0, Nat.zero_le _, rfl, _, rfl, HF0⟩
    case round =>
      obtain ⟨k, hk, rfl, g, rfl, hg⟩ := hrel
      by_cases h : k < xs.length
      · have hcell : w1.cell? ⟨b, off + k, none⟩ = some (.float .f64 xs[k]) := (hb1.cell (p := ⟨b, off + k, none⟩) hblk).trans (HC.out k _ (by simp [floatsV, h]))
        have hO := order_any xs[k] m (HX.out xs[k] (List.getElem_mem h)) HM'.out
        have hle := HMX.out xs[k] (List.getElem_mem h)
        have hS := foundAt_succ ff xs m k h
        rw [hg.out] at hS
        generalize Flt.ord xs[k] m = o at *
        have HO := Lib.hid hO
        have HS := Lib.hid hS
        clear hO hS hg
        cases g
        · go_wp2_with ((with_reducible refine (HO.out _).mono ?_); rintro e w2 ⟨rfl, rfl⟩)
          go_round
          case rel => exact ⟨k + 1, by omega, by go_num, _, rfl, (show _ = _ by rw [HS.out]; rfl)⟩
          case measure => simp [intOf]; omega
        · go_wp2_with ((with_reducible refine (HO.out _).mono ?_); rintro e w2 ⟨rfl, rfl⟩)
          go_round
          case rel => exact ⟨k + 1, by omega, by go_num, _, rfl, (show _ = _ by rw [HS.out]; rfl)⟩
          case measure => simp [intOf]; omega
      · obtain rfl : k = xs.length := by omega
        have hgt : g = true := by rw [← hg.out]; exact HF.out
        subst hgt
        go_wp2
        go_ret
        exact ⟨rfl, hb1⟩

set_option maxRecDepth 100000 in
set_option maxHeartbeats 4000000 in
theorem cellMost_nil (a : Option Addr) (cap : Nat) (w : World) : Calls Try.prog 9 #[.slice a 0 cap] w fun e w' => e = .returned (.bool true) ∧ Below w.heap.size w w' := by
  have K := fun w => most_any (.slice a 0 cap) [] w (Reads.empty w a cap) (by simp) (by simp)
  have KH := Lib.hid K
  clear K
  go_enter Try.func9, Try.ntmps9
  go_wp2_with fail
  refine (awake_any _).mono ?_
  rintro e w1 ⟨rfl, hb1⟩
  go_wp2_with fail
  refine (KH.out _).mono ?_
  rintro e w2 ⟨rfl, rfl⟩
  go_wp2_with fail
  refine wp_loop_rounds 1 ?_
  rw [rounds_succ]
  go_wp2
  go_ret
  exact ⟨rfl, hb1⟩

set_option maxRecDepth 100000 in
set_option maxHeartbeats 4000000 in
theorem cellMost_long (a : Option Addr) (n cap : Nat) (w : World) (hl : (300 : Int) < n) : Calls Try.prog 9 #[.slice a n cap] w fun e w' => e = .returned (.bool true) ∧ Below w.heap.size w w' := by
  go_enter Try.func9, Try.ntmps9
  go_wp2_with fail
  refine (awake_any _).mono ?_
  rintro e w1 ⟨rfl, hb1⟩
  go_wp2_with fail
  refine (awake_any _).mono ?_
  rintro e w2 ⟨rfl, hb2⟩
  go_wp2
  go_ret
  exact ⟨rfl, below2 hb1 hb2⟩

theorem walkCellMost (v : Value) (xs : List Nat) (w : World) (hr : Reads w v (xs.map (Value.float .f64))) (hx : ∀ x ∈ xs, x < 2 ^ 64) : Calls Try.prog 9 #[v] w fun e w' => e = .returned (.bool true) ∧ Below w.heap.size w w' := by
  change Reads w v (floatsV xs) at hr
  obtain ⟨h1, h2⟩ := mostF_max xs
  have hlt := mostF_lt xs hx
  rcases hr.cases with ⟨h0, a, cap, rfl⟩ | ⟨b, off, cap, rfl, hpos, hcap, hblk, hc⟩
  · exact cellMost_nil a cap w
  · rw [floatsV_len] at hpos hcap hr ⊢
    by_cases hl : xs.length ≤ 300
    · refine cellMost_core b off cap xs (Flt.canon (mostF xs)) w hpos (by omega) hblk hr hc hx rfl (Flt.canon_canon _) (fun x hm => ?_) _ rfl ?_
      · rw [ord_canon_right, ord_pos]; have := h1 x hm; omega
      · unfold foundAt
        rw [List.take_of_length_le (Nat.le_refl _)]
        rcases h2 with h2 | h2
        · rw [h2]; simp [show Flt.canon 18442240474082181120 = 18442240474082181120 from by decide +kernel]
        · rw [Bool.or_eq_true]
          right
          rw [List.any_eq_true]
          exact ⟨_, h2, by rw [ord_canon_right, (ord_zero _ _).2 rfl]; rfl⟩
    · exact cellMost_long _ _ _ w (by omega)
end Go.Proofs.Ytpkglclhopamcaa
