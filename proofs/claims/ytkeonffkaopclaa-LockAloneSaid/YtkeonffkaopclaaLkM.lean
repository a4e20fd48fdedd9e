/- The statement LockAlone, walked. -/
import Derived.Test.YtkeonffkaopclaaLkL
import Derived.Test.YtkeonffkaopclaaUint
import Derived.Deep.DeepCutAuto
import Derived.Deep.CutBlock
namespace Go.Proofs.Ytkeonffkaopclaa
open Go.RowKit

/-- How many of the first ones have a page so. -/
def Lk.count (S : Lk) (p m : Int) : Nat → Nat
  | 0 => 0
  | j + 1 => S.count p m j + if S.mode (j + 1) p = m then 1 else 0
theorem mode_vals (S : Lk) (t p : Int) : S.mode t p = 0 ∨ S.mode t p = 1 ∨ S.mode t p = 2 := by
  unfold Lk.mode
  by_cases h : 0 ≤ p ∧ p < 8 ∧ t ∈ (S p.toNat).who
  · rw [if_pos h]
    cases (S p.toNat).alone <;> simp
  · rw [if_neg h]; exact .inl rfl
theorem count_le (S : Lk) (p m : Int) : ∀ j, S.count p m j ≤ j
  | 0 => Nat.le_refl _
  | j + 1 => by
    have := count_le S p m j
    unfold Lk.count
    by_cases h : S.mode (j + 1) p = m
    · rw [if_pos h]; omega
    · rw [if_neg h]; omega
theorem count_none {S : Lk} {p m : Int} (h : ∀ t, S.mode t p ≠ m) : ∀ j, S.count p m j = 0
  | 0 => rfl
  | j + 1 => by
    unfold Lk.count
    rw [count_none h j, if_neg (h _)]
theorem count_one {S : Lk} {p m y : Int} (h : ∀ t, S.mode t p = m → t = y) : ∀ j : Nat, S.count p m j ≤ (if y ≤ j then 1 else 0)
  | 0 => Nat.zero_le _
  | j + 1 => by
    have := count_one h j
    unfold Lk.count
    by_cases hm : S.mode (j + 1) p = m
    · have hy := h _ hm
      rw [if_pos hm, if_pos (by omega)]
      rw [if_neg (by omega)] at this
      omega
    · rw [if_neg hm]
      by_cases hj : y ≤ (j : Int)
      · rw [if_pos hj] at this
        rw [if_pos (by omega)]
        omega
      · rw [if_neg hj] at this
        omega
/-- Who has a page alone has it alone of all. -/
theorem alone_one {S : Lk} (h : S.Ok) (p : Int) (j : Nat) : S.count p 2 j = 0 ∨ (S.count p 2 j ≤ 1 ∧ S.count p 1 j = 0) := by
  cases ha : (S p.toNat).alone with
  | false =>
    left
    refine count_none (fun t e => ?_) j
    unfold Lk.mode at e
    by_cases hc : 0 ≤ p ∧ p < 8 ∧ t ∈ (S p.toNat).who
    · rw [if_pos hc, ha] at e; simp at e
    · rw [if_neg hc] at e; omega
  | true =>
    right
    refine ⟨?_, count_none (fun t e => ?_) j⟩
    · have h1 := h.one _ ha
      match hw : (S p.toNat).who, h1 with
      | [y], _ =>
        have := count_one (S := S) (p := p) (m := 2) (y := y) (fun t e => by
          unfold Lk.mode at e
          by_cases hc : 0 ≤ p ∧ p < 8 ∧ t ∈ (S p.toNat).who
          · have := hc.2.2
            rw [hw] at this
            simpa using this
          · rw [if_neg hc] at e; omega) j
        by_cases hy : y ≤ (j : Int)
        · rw [if_pos hy] at this; exact this
        · rw [if_neg hy] at this; omega
    · unfold Lk.mode at e
      by_cases hc : 0 ≤ p ∧ p < 8 ∧ t ∈ (S p.toNat).who
      · rw [if_pos hc, ha] at e; simp at e
      · rw [if_neg hc] at e; omega
set_option maxRecDepth 100000 in
set_option maxHeartbeats 16000000 in
theorem walkLockAlone (v : Value) (ops : List Op9) (w : World) (hr : IsOps9 w v ops) :
    Calls Try.prog 4 #[v] w fun e w' => e = .returned (.bool true) ∧ Below w.heap.size w w' := by
  have HV := Lib.hid hr
  obtain ⟨a, cap, rfl, h1, h2, _⟩ := hr
  have hlm : (ops.length : Int) ≤ 9223372036854775807 := by unfold maxLen at h2; omega
  clear h1 h2
  go_enter Try.func4, Try.ntmps4
  go_wp2_with fail
  refine (awake9 _).mono ?_
  rintro e w1 ⟨rfl, hb⟩
  have HB := Lib.hid hb
  clear hb
  by_cases h3 : (300 : Int) < ops.length
  · go_wp2_with fail
    refine (awake9 _).mono ?_
    rintro e w2 ⟨rfl, hb⟩
    have HB2 := Lib.hid (below2 HB.out hb)
    clear hb
    go_wp2
    go_ret
    exact ⟨rfl, HB2.out⟩
  go_wp2_with fail
  refine (LiveK.make HB.out).mono ?_
  rintro e w2 ⟨F0, q, rfl, L0⟩
  go_wp2
  go_loopw [21] (fun i wr => ∃ (k : Nat) (F : Foot) (S : Lk), k ≤ ops.length ∧ i = .int .i64 k ∧ LiveK w wr F q S) (fun i _ => (ops.length - intOf i).toNat)
  case atStart => exact ⟨0, F0, Lk.empty, Nat.zero_le _, rfl, L0⟩
  case round =>
    obtain ⟨k, F, S, hk, rfl, hL⟩ := hrel
    by_cases hlt : k < ops.length
    · have HL := Lib.hid hL
      have HLT := Lib.hid hlt
      obtain ⟨b, off, cap', hva, _, _, hbw, hel⟩ := HV.out.at_ (by omega)
      cases hva
      obtain ⟨hwf, hc⟩ := hel k hlt
      obtain ⟨c0, c1, c2, c3⟩ := hc.keep hL.below
      generalize ops[k] = o at *
      clear hel hc L0 hL
      have hmod := modN_eq o.txn 5 (by omega) (by omega)
      have hml := modN_lt o.txn 5 (by omega)
      generalize modN o.txn 5 = md at *
      have x := Blk.new wr 31 (op9Cells o)
      have x2 := Blk.new wr 31 #[.int .i64 o.kind, .int .i64 (1 + md), .int .i64 o.page, .int .i64 o.mode]
      have d0 := x.cell 0
      have d1 := x.cell 1
      have f1 := x.frozen 1
      have HL1 := Lib.hid (HL.out.more ((Below.refl wr.heap.size wr).alloc (Nat.le_refl _) (.cells #[.int .i64 o.kind, .int .i64 (1 + md), .int .i64 o.page, .int .i64 o.mode] 31)))
      simp [op9Cells] at d0 d1
      clear HL x
      go_upto_region 8 with fail
      change Code.wp _ _ _ _ (wr.alloc (.cells #[.int .i64 o.kind, .int .i64 (1 + md), .int .i64 o.page, .int .i64 o.mode] 31))
      generalize wr.alloc (.cells #[.int .i64 o.kind, .int .i64 (1 + md), .int .i64 o.page, .int .i64 o.mode] 31) = w3 at *
      generalize wr.heap.size = g at *
      have e0 : w3.cell? ⟨g, 0, none⟩ = some (.int .i64 o.kind) := x2.cell 0
      have e1 : w3.cell? ⟨g, 1, none⟩ = some (.int .i64 (1 + md)) := x2.cell 1
      have e2 : w3.cell? ⟨g, 2, none⟩ = some (.int .i64 o.page) := x2.cell 2
      have e3 : w3.cell? ⟨g, 3, none⟩ = some (.int .i64 o.mode) := x2.cell 3
      clear x2 d0 d1 f1 c0 c1 c2 c3 hmod hml hwf
      go_upto_if 34 with fail
      go_cut [21] from 21 to 77 (fun s21 wx => s21 = .int .i64 k ∧ ∃ (F : Foot) (S : Lk), LiveK w wx F q S)
      case first =>
        by_cases hk2 : o.kind = 2
        · have hk2' : (o.kind == 2) = true := by simpa using hk2
          clear hk2
          go_wp2_with fail
          refine (HL1.out.free _).mono ?_
          rintro e w4 ⟨F4, rfl, L4, -⟩
          have HL4 := Lib.hid L4
          clear L4 HL1
          go_wp2
          go_meet
          exact ⟨rfl, F4, _, HL4.out⟩
        · have hk2' : (o.kind == 2) = false := by simpa using hk2
          clear hk2
          go_wp2_with fail
          refine (HL1.out.take _ _ _).mono ?_
          rintro e w4 ⟨F4, rfl, L4, -⟩
          have HL4 := Lib.hid L4
          clear L4 HL1
          go_wp2
          go_meet
          exact ⟨rfl, F4, _, HL4.out⟩
      obtain ⟨rfl, F1, S1, hL1⟩ := hcut
      have HLB := Lib.hid hL1
      clear HL1 hL1 e0 e1 e2 e3
      go_wp2
      go_loopw [47] (fun i wr => ∃ p : Nat, p ≤ 8 ∧ i = .int .i64 p ∧ LiveK w wr F1 q S1) (fun i _ => (8 - intOf i).toNat)
      case atStart => exact ⟨0, by omega, rfl, HLB.out⟩
      case round =>
        obtain ⟨p, hp, rfl, hLp⟩ := hrel
        by_cases hp8 : p < 8
        · have HLP := Lib.hid hLp
          have HP8 := Lib.hid hp8
          have hpi : (p : Int) < 8 := by omega
          clear hLp
          go_wp2
          go_loopw [7, 8, 9] (fun n al t wr => ∃ j : Nat, j ≤ 5 ∧ n = .int .i64 (S1.count p 1 j : Nat) ∧ al = .int .i64 (S1.count p 2 j : Nat) ∧ t = .int .i64 (j + 1) ∧ LiveK w wr F1 q S1) (fun _ _ t _ => (6 - intOf t).toNat)
          case atStart => exact ⟨0, by omega, rfl, rfl, rfl, HLP.out⟩
          case round =>
            obtain ⟨j, hj, rfl, rfl, rfl, hLj⟩ := hrel
            by_cases hj5 : j < 5
            · have HLJ := Lib.hid hLj
              have HJ5 := Lib.hid hj5
              have hji : (j : Int) + 1 ≤ 5 := by omega
              clear hLj
              have C1 : Hid (S1.count p 1 (j + 1) = S1.count p 1 j + if S1.mode (j + 1) p = 1 then 1 else 0) := rfl
              have C2 : Hid (S1.count p 2 (j + 1) = S1.count p 2 j + if S1.mode (j + 1) p = 2 then 1 else 0) := rfl
              have K := HLJ.out.mode (j + 1) p
              have l1 := count_le S1 p 1 j
              have l2 := count_le S1 p 2 j
              rcases mode_vals S1 (j + 1) p with hm | hm | hm
              · rw [hm] at K C1 C2
                have HK := Lib.hid K
                clear K hm HLJ
                generalize S1.count p 1 j = n1 at *
                generalize S1.count p 2 j = n2 at *
                go_wp2_with fail
                refine HK.out.mono ?_
                rintro e w5 ⟨rfl, L5, -⟩
                have HL5 := Lib.hid L5
                clear L5 HK
                go_wp2
                exact ⟨⟨j + 1, HJ5.out, by rw [C1.out]; rfl, by rw [C2.out]; rfl, by go_num, HL5.out⟩, by simp [intOf]; have := HJ5.out; omega⟩
              · rw [hm] at K C1 C2
                have HK := Lib.hid K
                clear K hm HLJ
                generalize S1.count p 1 j = n1 at *
                generalize S1.count p 2 j = n2 at *
                go_wp2_with fail
                refine HK.out.mono ?_
                rintro e w5 ⟨rfl, L5, -⟩
                have HL5 := Lib.hid L5
                clear L5 HK
                go_wp2
                exact ⟨⟨j + 1, HJ5.out, by rw [C1.out]; rfl, by rw [C2.out]; rfl, by go_num, HL5.out⟩, by simp [intOf]; have := HJ5.out; omega⟩
              · rw [hm] at K C1 C2
                have HK := Lib.hid K
                clear K hm HLJ
                generalize S1.count p 1 j = n1 at *
                generalize S1.count p 2 j = n2 at *
                go_wp2_with fail
                refine HK.out.mono ?_
                rintro e w5 ⟨rfl, L5, -⟩
                have HL5 := Lib.hid L5
                clear L5 HK
                go_wp2
                exact ⟨⟨j + 1, HJ5.out, by rw [C1.out]; rfl, by rw [C2.out]; rfl, by go_num, HL5.out⟩, by simp [intOf]; have := HJ5.out; omega⟩
            · obtain rfl : j = 5 := by omega
              have HLJ := Lib.hid hLj
              have hone := alone_one hLj.lock.1 p 5
              clear hLj
              generalize S1.count p 1 5 = n1 at *
              generalize S1.count p 2 5 = n2 at *
              rcases (show n2 = 0 ∨ (n2 = 1 ∧ n1 = 0) by omega) with rfl | ⟨rfl, rfl⟩
              · clear hone
                go_wp2
                exact ⟨⟨p + 1, HP8.out, by go_num, HLJ.out⟩, by simp [intOf]; have := HP8.out; omega⟩
              · clear hone
                go_wp2
                exact ⟨⟨p + 1, HP8.out, by go_num, HLJ.out⟩, by simp [intOf]; have := HP8.out; omega⟩
        · obtain rfl : p = 8 := by omega
          have HLP := Lib.hid hLp
          clear hLp
          go_wp2
          exact ⟨⟨k + 1, F1, S1, HLT.out, by go_num, HLP.out⟩, by simp [intOf]; have := HLT.out; omega⟩
    · obtain rfl : k = ops.length := by omega
      have HL := Lib.hid hL.below
      clear hL L0
      go_wp2
      go_ret
      exact ⟨rfl, HL.out⟩
end Go.Proofs.Ytkeonffkaopclaa
