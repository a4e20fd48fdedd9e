/- The statement LockMay, walked. -/
import Derived.Test.YtkeonffkaopclaaOps9
namespace Go.Proofs.Ytkeonffkaopclaa
open Go.RowKit

theorem mode_in {S : Lk} {t p : Int} (p1 : 0 ≤ p) (p2 : p < 8) : S.mode t p = if t ∈ (S p.toNat).who then (if (S p.toNat).alone then 2 else 1) else 0 := by
  unfold Lk.mode
  by_cases ht : t ∈ (S p.toNat).who
  · rw [if_pos ⟨p1, p2, ht⟩, if_pos ht]
  · rw [if_neg (fun e => ht e.2.2), if_neg ht]
theorem take_mode {S : Lk} (ho : S.Ok) {t p m : Int} (h0 : S.may t p m = 0) : (S.take t p m).mode t p = if S.mode t p < m then m else S.mode t p := by
  have hc : Call9 t p m := Classical.byContradiction fun hc => by
    unfold Lk.may at h0
    rw [if_neg hc] at h0
    cases h0
  have hno : ¬ ((S p.toNat).others t = true ∧ ((S p.toNat).alone = true ∨ m = 2)) := fun e => by
    unfold Lk.may at h0
    rw [if_pos hc, if_pos e] at h0; cases h0
  unfold Lk.take
  rw [if_pos h0]
  obtain ⟨_, _, p1, p2, hm⟩ := hc
  have hw : (S.give t p.toNat m) p.toNat = ⟨if t ∈ (S p.toNat).who then (S p.toNat).who else (S p.toNat).who ++ [t], (S p.toNat).alone || decide (m = 2)⟩ := if_pos rfl
  have hin : t ∈ ((S.give t p.toNat m) p.toNat).who := by
    rw [hw]
    by_cases ht : t ∈ (S p.toNat).who
    · simp only [if_pos ht]; exact ht
    · simp only [if_neg ht]; simp
  rw [mode_in p1 p2, mode_in p1 p2, if_pos hin, hw]
  by_cases ht : t ∈ (S p.toNat).who
  · rw [if_pos ht]
    cases ha : (S p.toNat).alone with
    | true => rcases hm with rfl | rfl <;> simp [ht]
    | false => rcases hm with rfl | rfl <;> simp [ht]
  · rw [if_neg ht]
    cases ha : (S p.toNat).alone with
    | true =>
      exfalso
      have h1 := ho.one _ ha
      obtain ⟨y, hy⟩ := List.exists_mem_of_length_pos (l := (S p.toNat).who) (by omega)
      exact hno ⟨(others_true _ _).2 ⟨y, hy, fun e => ht (e ▸ hy)⟩, .inl ha⟩
    | false => rcases hm with rfl | rfl <;> simp [ht]
set_option maxRecDepth 100000 in
set_option maxHeartbeats 16000000 in
theorem walkLockMay (v : Value) (ops : List Op9) (t p m : Int) (w : World) (hr : IsOps9 w v ops) (_ : (Lit.int .i64 t).wf = true) (_ : (Lit.int .i64 p).wf = true) (_ : (Lit.int .i64 m).wf = true) :
    Calls Try.prog 6 #[v, .int .i64 t, .int .i64 p, .int .i64 m] w fun e w' => e = .returned (.bool true) ∧ Below w.heap.size w w' := by
  have HV := Lib.hid hr
  obtain ⟨a, cap, rfl, h1, h2, _⟩ := hr
  have hlm : (ops.length : Int) ≤ 9223372036854775807 := by unfold maxLen at h2; omega
  clear h1 h2
  go_enter Try.func6, Try.ntmps6
  go_wp2_with fail
  refine (awake9 _).mono ?_
  rintro e w1 ⟨rfl, hb⟩
  have HB := Lib.hid hb
  clear hb
  by_cases h3 : (300 : Int) < ops.length
  · go_wp2_with fail
    refine (awake9 _).mono ?_
    rintro e w2 ⟨rfl, hb⟩
    have HB2 := Lib.hid (below2 HB.out hb)
    clear hb
    go_wp2
    go_ret
    exact ⟨rfl, HB2.out⟩
  go_wp2_with fail
  refine (LiveK.make HB.out).mono ?_
  rintro e w2 ⟨F0, q, rfl, L0⟩
  go_wp2
  go_loopw [27] (fun i wr => ∃ (k : Nat) (F : Foot) (S : Lk), k ≤ ops.length ∧ i = .int .i64 k ∧ LiveK w wr F q S) (fun i _ => (ops.length - intOf i).toNat)
  case atStart => exact ⟨0, F0, Lk.empty, Nat.zero_le _, rfl, L0⟩
  case round =>
    obtain ⟨k, F, S, hk, rfl, hL⟩ := hrel
    by_cases hlt : k < ops.length
    · have HL := Lib.hid hL
      have HLT := Lib.hid hlt
      obtain ⟨b, off, cap', hva, _, _, hbw, hel⟩ := HV.out.at_ (by omega)
      cases hva
      obtain ⟨hwf, hc⟩ := hel k hlt
      obtain ⟨c0, c1, c2, c3⟩ := hc.keep hL.below
      generalize ops[k] = o at *
      clear hel hc L0 hL hwf
      have x := Blk.new wr 31 (op9Cells o)
      have d0 := x.cell 0
      have d1 := x.cell 1
      have d2 := x.cell 2
      have d3 := x.cell 3
      have HL1 := Lib.hid (HL.out.more ((Below.refl wr.heap.size wr).alloc (Nat.le_refl _) (.cells (op9Cells o) 31)))
      simp [op9Cells] at d0 d1 d2 d3
      clear x HL
      go_wp2_with fail
      refine (HL1.out.take _ _ _).mono ?_
      rintro e w4 ⟨F4, rfl, L4, -⟩
      have HL4 := Lib.hid L4
      clear L4 HL1
      go_wp2
      exact ⟨⟨k + 1, F4, _, HLT.out, by go_num, HL4.out⟩, by simp [intOf]; have := HLT.out; omega⟩
    · obtain rfl : k = ops.length := by omega
      have HL := Lib.hid hL
      clear hL L0
      go_wp2_with fail
      refine (HL.out.mode t p).mono ?_
      rintro e w3 ⟨rfl, L3, -⟩
      have HL3 := Lib.hid L3
      clear L3 HL
      go_wp2_with fail
      refine (HL3.out.may t p m).mono ?_
      rintro e w4 ⟨rfl, L4, -⟩
      have HL4 := Lib.hid L4
      clear L4 HL3
      go_wp2_with fail
      refine (HL4.out.take t p m).mono ?_
      rintro e w5 ⟨F5, rfl, L5, -⟩
      have K5 := L5.mode t p
      have HOK := Lib.hid HL4.out.lock.1
      clear L5 HL4
      by_cases h0 : S.may t p m = 0
      · rw [take_mode HOK.out h0] at K5
        rw [h0]
        have HK5 := Lib.hid K5
        clear K5 HOK h0
        generalize S.mode t p = x at *
        by_cases hx : x < m
        · rw [if_pos hx] at HK5
          go_wp2_with fail
          refine HK5.out.mono ?_
          rintro e w6 ⟨rfl, L6, -⟩
          have HB6 := Lib.hid L6.below
          clear L6 HK5
          go_wp2
          go_ret
          exact ⟨rfl, HB6.out⟩
        · rw [if_neg hx] at HK5
          go_wp2_with fail
          refine HK5.out.mono ?_
          rintro e w6 ⟨rfl, L6, -⟩
          have HB6 := Lib.hid L6.below
          clear L6 HK5
          go_wp2
          go_ret
          exact ⟨rfl, HB6.out⟩
      · have e : S.take t p m = S := by unfold Lk.take; rw [if_neg h0]
        rw [e] at K5
        have HK5 := Lib.hid K5
        have h1 : ((S.may t p m : Int) == 0) = false := by simpa using h0
        have h2 : ((S.may t p m : Int) != 0) = true := by simpa using h0
        clear K5 HOK h0 e
        generalize S.mode t p = x at *
        generalize S.may t p m = n at *
        go_wp2_with fail
        refine HK5.out.mono ?_
        rintro e w6 ⟨rfl, L6, -⟩
        have HB6 := Lib.hid L6.below
        clear L6 HK5
        go_wp2
        go_ret
        exact ⟨rfl, HB6.out⟩
end Go.Proofs.Ytkeonffkaopclaa
