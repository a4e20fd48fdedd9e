/- The statement TableMarks, walked. -/
import Derived.Test.YtfbghdkbimnnbaaOps10
import Derived.Test.YtfbghdkbimnnbaaOpenNums
import Derived.Test.YtfbghdkbimnnbaaUint
namespace Go.Proofs.Ytfbghdkbimnnbaa
open Go.RowKit

/-- Transaction 7 with i marks. -/
def mk10 (i : Nat) : Tb := [⟨7, if i = 0 then 0 else 128, 128 * i, i, (List.range i).map fun (j : Nat) => (128 * ((j : Int) + 1), (j : Int) + 1)⟩]
/-- All its marks, if M were asked for. -/
def ts10 (M : Nat) : List (Int × Int) := (List.range (min (M + 1) 4)).map fun (b : Nat) => (128 * ((min (b + 1) M : Nat) : Int), ((min (b + 1) M : Nat) : Int))
/-- It, back at the mark h - 1. -/
def sb10 (M h : Nat) : Tb := [⟨7, 128, 128 * M, M, (ts10 M).take h⟩]
theorem mk10_step : ∀ i : Nat, i < 4 → (Tb.logT (mk10 i) 7 (128 * ((i : Int) + 1))).2 = 0 ∧ (Tb.leftT (Tb.logT (mk10 i) 7 (128 * ((i : Int) + 1))).1 7 1).2 = 0 ∧
    Tb.markT (Tb.leftT (Tb.logT (mk10 i) 7 (128 * ((i : Int) + 1))).1 7 1).1 7 ((i : Int) + 1) = (mk10 (i + 1), i, 0)
  | 0, _ => ⟨rfl, rfl, rfl⟩ | 1, _ => ⟨rfl, rfl, rfl⟩ | 2, _ => ⟨rfl, rfl, rfl⟩ | 3, _ => ⟨rfl, rfl, rfl⟩
  | n + 4, h => by omega
theorem mk10_more : ∀ M : Nat, 1 ≤ M → M < 4 → Tb.markT (mk10 M) 7 M = (sb10 M (M + 1), M, 0)
  | 0, h, _ => by omega
  | 1, _, _ => rfl | 2, _, _ => rfl | 3, _, _ => rfl
  | n + 4, _, h => by omega
theorem mk10_full : Tb.markT (mk10 4) 7 (4 : Nat) = (sb10 4 4, 0, 5) := rfl
theorem ts10_len (M : Nat) : (ts10 M).length = min (M + 1) 4 := by simp [ts10]
theorem ts10_at {M b : Nat} (h : b < min (M + 1) 4) : (ts10 M)[b]? = some (128 * ((min (b + 1) M : Nat) : Int), ((min (b + 1) M : Nat) : Int)) := by
  unfold ts10
  rw [List.getElem?_map, List.getElem?_range h]
  rfl
theorem back_bad {M h b : Nat} (hh : h ≤ min (M + 1) 4) (hb : h ≤ b) : Tb.backT (sb10 M h) 7 b = (sb10 M h, (0, 0), 7) := by
  have ha : Tb.at_ (sb10 M h) 7 = some ⟨7, 128, 128 * M, M, (ts10 M).take h⟩ := rfl
  unfold Tb.backT
  rw [ha]
  have hl : ((ts10 M).take h).length = h := by rw [List.length_take, ts10_len]; omega
  simp only [hl]
  rw [if_pos (by omega)]
theorem back_good {M h b : Nat} (hh : h ≤ min (M + 1) 4) (hb : b < h) : Tb.backT (sb10 M h) 7 b = (sb10 M (b + 1), (128 * ((min (b + 1) M : Nat) : Int), ((min (b + 1) M : Nat) : Int)), 0) := by
  have ha : Tb.at_ (sb10 M h) 7 = some ⟨7, 128, 128 * M, M, (ts10 M).take h⟩ := rfl
  unfold Tb.backT
  rw [ha]
  have hl : ((ts10 M).take h).length = h := by rw [List.length_take, ts10_len]; omega
  simp only [hl]
  rw [if_neg (by omega), Int.toNat_natCast]
  have hg : ((ts10 M).take h).getD b (0, 0) = (128 * ((min (b + 1) M : Nat) : Int), ((min (b + 1) M : Nat) : Int)) := by
    rw [List.getD_eq_getElem?_getD, List.getElem?_take, if_pos hb, ts10_at (by omega)]
    rfl
  rw [hg, List.take_take, Nat.min_eq_left (by omega)]
  rfl
set_option maxRecDepth 100000 in
set_option maxHeartbeats 16000000 in
theorem walkTableMarks (m : Int) (v : Value) (bs : List Int) (w : World) (_ : (Lit.int .i64 m).wf = true) (hr : Reads w v (bs.map fun b => Value.int .i64 b)) (hmax : bs.length ≤ maxLen) :
    Calls Try.prog 4 #[.int .i64 m, v] w fun e w' => e = .returned (.bool true) ∧ Below w.heap.size w w' := by
  obtain ⟨a, cap, rfl, h1, hx⟩ := hr
  have HV : Hid (bs.length ≤ cap ∧ ∀ j x, bs[j]? = some x → ∃ b off, a = some ⟨b, off, none⟩ ∧ w.cell? ⟨b, off + j, none⟩ = some (.int .i64 x)) :=
    ⟨by rw [List.length_map] at h1; exact h1, fun j x hj => hx j _ (by rw [List.getElem?_map, hj]; rfl)⟩
  clear hx
  rw [List.length_map] at h1 ⊢
  have hlm : (bs.length : Int) ≤ 9223372036854775807 := by unfold maxLen at hmax; omega
  clear h1 hmax
  go_enter Try.func4, Try.ntmps4
  go_wp2_with fail
  refine (awake10 _).mono ?_
  rintro e w1 ⟨rfl, hb⟩
  have HB := Lib.hid hb
  clear hb
  by_cases h3 : (50 : Int) < bs.length
  · go_wp2_with fail
    refine (awake10 _).mono ?_
    rintro e w2 ⟨rfl, hb⟩
    have HB2 := Lib.hid (below2 HB.out hb)
    clear hb
    go_wp2
    go_ret
    exact ⟨rfl, HB2.out⟩
  go_wp2_with fail
  refine (LiveT.make HB.out).mono ?_
  rintro e w2 ⟨F0, q, rfl, L0⟩
  have T1 := L0.begin 7
  rw [show (Tb.beginT [] 7).1 = mk10 0 from rfl, show (Tb.beginT [] 7).2 = 0 from rfl] at T1
  have K1 := Lib.hid T1
  clear T1 L0
  go_wp2_with fail
  refine K1.out.mono ?_
  rintro e w3 ⟨F1, rfl, L1, -⟩
  have HL1 := Lib.hid L1
  have hmod := modN_eq m 4 (by omega) (by omega)
  have hml := modN_lt m 4 (by omega)
  generalize modN m 4 = md at *
  obtain ⟨M, hM⟩ : ∃ M : Nat, 1 + (md : Int) = M := ⟨md + 1, by omega⟩
  have hM4 : M ≤ 4 := by omega
  have hM0 : 1 ≤ M := by omega
  have hMi : (M : Int) ≤ 4 := by omega
  clear L1 K1
  go_wp2
  try rw [hM]
  clear hM hmod hml
  go_loopw [34] (fun i wr => ∃ (j : Nat) (F : Foot), j ≤ M ∧ i = .int .i64 j ∧ LiveT w wr F q (mk10 j)) (fun i _ => (M - intOf i).toNat)
  case atStart => exact ⟨0, F1, Nat.zero_le _, rfl, HL1.out⟩
  case round =>
    obtain ⟨j, F, hj, rfl, hL⟩ := hrel
    by_cases hjM : j < M
    · have HL := Lib.hid hL
      have HJ := Lib.hid hjM
      have hji : (j : Int) < M := by omega
      obtain ⟨s1, s2, s3⟩ := mk10_step j (by omega)
      have S3 := Lib.hid s3
      have K1 := HL.out.log 7 (128 * ((j : Int) + 1))
      rw [s1] at K1
      have HK1 := Lib.hid K1
      have S2 := Lib.hid s2
      have n1 : IntKind.i64.wrap ((j : Int) + 1) = (j : Int) + 1 := IntWalk.i64_in _ (by omega)
      have n2 : IntKind.i64.wrap (128 * ((j : Int) + 1)) = 128 * ((j : Int) + 1) := IntWalk.i64_in _ (by omega)
      clear s1 s2 s3 K1 hL
      go_wp2_with fail
      refine HK1.out.mono ?_
      rintro e w4 ⟨F4, rfl, L4, -⟩
      have K2 := L4.left 7 1
      rw [S2.out] at K2
      have HK2 := Lib.hid K2
      clear K2 L4 HK1
      go_wp2_with fail
      refine HK2.out.mono ?_
      rintro e w5 ⟨F5, rfl, L5, -⟩
      have K3 := L5.mark 7 ((j : Int) + 1)
      rw [S3.out] at K3
      have HK3 := Lib.hid K3
      clear K3 L5 HK2 S2 S3
      go_wp2_with fail
      refine HK3.out.mono ?_
      rintro e w6 ⟨F6, rfl, L6, -⟩
      have HL6 := Lib.hid L6
      clear L6 HK3
      go_wp2
      go_roundw
      case rel => exact ⟨j + 1, F6, HJ.out, by go_num, HL6.out⟩
      case measure => simp [intOf]; have := HJ.out; omega
    · have hjm : j = M := by omega
      subst hjm
      have K7 : Hid (Calls Try.prog 16 #[.pointer (some ⟨q, 0, none⟩), .int .i64 7, .int .i64 j] wr fun e w' => ∃ F', e = .returned (.tuple #[.int .i64 (if j = 4 then 0 else j : Nat), .int .i64 (if j = 4 then 5 else 0 : Nat)]) ∧ LiveT w w' F' q (sb10 j (min (j + 1) 4))) := by
        have K := hL.mark 7 j
        by_cases h4 : j = 4
        · subst h4
          rw [mk10_full] at K
          refine K.mono ?_
          rintro e w9 ⟨F9, rfl, L9, -⟩
          exact ⟨F9, rfl, L9⟩
        · rw [mk10_more j hM0 (by omega)] at K
          have e4 : min (j + 1) 4 = j + 1 := by omega
          rw [if_neg h4, if_neg h4, e4]
          refine K.mono ?_
          rintro e w9 ⟨F9, rfl, L9, -⟩
          exact ⟨F9, rfl, L9⟩
      clear hL HL1
      by_cases h4 : j = 4
      · subst h4
        go_wp2_with fail
        refine K7.out.mono ?_
        rintro e w4 ⟨F4, rfl, L4⟩
        have HL4 := Lib.hid L4
        clear L4 K7
        go_wp2
        go_loopw [11, 84] (fun hv i wr => ∃ (k h : Nat) (F : Foot), k ≤ bs.length ∧ 1 ≤ h ∧ h ≤ min (4 + 1) 4 ∧ hv = .int .i64 h ∧ i = .int .i64 k ∧ LiveT w wr F q (sb10 4 h)) (fun _ i _ => (bs.length - intOf i).toNat)
        case atStart => exact ⟨0, 4, F4, Nat.zero_le _, by omega, by omega, by first | rfl | go_num, rfl, HL4.out⟩
        case round =>
          obtain ⟨k, h, F, hk, h1, hh, rfl, rfl, hL⟩ := hrel
          by_cases hlt : k < bs.length
          · have HL := Lib.hid hL
            have HKL := Lib.hid hlt
            obtain ⟨hcapk, hx⟩ := HV.out
            obtain ⟨b0, off, rfl, c0⟩ := hx k bs[k] (List.getElem?_eq_getElem hlt)
            have c1 := (hL.below.cell (p := ⟨b0, off + k, none⟩) (World.block_lt_of_cell? w _ c0)).trans c0
            have hlti : (k : Int) < bs.length := by omega
            clear hL c0 hx hlt hk HL4
            generalize bs[k] = bv at *
            have hmod := modN_eq bv 5 (by omega) (by omega)
            have hml := modN_lt bv 5 (by omega)
            generalize modN bv 5 = bb at *
            have hhm : h ≤ 4 := by omega
            by_cases hbb : h ≤ bb
            · have K := HL.out.back 7 (bb : Int)
              rw [back_bad hh hbb] at K
              have HK := Lib.hid K
              have HH : Hid (1 ≤ h ∧ h ≤ min (4 + 1) 4) := ⟨h1, hh⟩
              have hbi : (h : Int) ≤ bb := by omega
              clear K hh h1 hbb HL hhm
              go_wp2_with fail
              refine HK.out.mono ?_
              rintro e w5 ⟨F5, rfl, L5, -⟩
              have HL5 := Lib.hid L5
              clear L5 HK hmod hml
              go_wp2
              exact ⟨⟨k + 1, h, F5, HKL.out, HH.out.1, HH.out.2, rfl, by go_num, HL5.out⟩, by simp [intOf]; have := HKL.out; omega⟩
            · have hbb := Nat.lt_of_not_le hbb
              by_cases hlm2 : bb < 4
              · skip
                have K := HL.out.back 7 (bb : Int)
                rw [back_good hh hbb] at K
                simp only at K
                have e : min (bb + 1) 4 = bb + 1 := by omega
                rw [e] at K
                have ec : ((bb + 1 : Nat) : Int) = (bb : Int) + 1 := by omega
                rw [ec] at K
                clear ec
                have HK := Lib.hid K
                have HH : Hid (1 ≤ bb + 1 ∧ bb + 1 ≤ min (4 + 1) 4) := ⟨by omega, by omega⟩
                have hbi : ¬ (h : Int) ≤ bb := by omega
                have hmi : ∀ w, (Builtin.min_ #[3, 3] 3 #[.int .i64 ((bb : Int) + 1), .int .i64 (4 : Int)]).run Try.prog w = .ok (.int .i64 ((bb : Int) + 1)) w := fun w => by rw [run_min_int2, show (if (4 : Int) < (bb : Int) + 1 then (4 : Int) else (bb : Int) + 1) = (bb : Int) + 1 from by split <;> omega]
                have n1 : IntKind.i64.wrap ((bb : Int) + 1) = (bb : Int) + 1 := IntWalk.i64_in _ (by omega)
                have n2 : IntKind.i64.wrap (128 * ((bb : Int) + 1)) = 128 * ((bb : Int) + 1) := IntWalk.i64_in _ (by omega)
                clear K hh h1 hbb e HL hhm
                go_wp2_with fail
                refine HK.out.mono ?_
                rintro e w5 ⟨F5, rfl, L5, -⟩
                have HL5 := Lib.hid L5
                clear L5 HK hmod hml hbb hlm2
                go_wp2
                exact ⟨⟨k + 1, bb + 1, F5, HKL.out, HH.out.1, HH.out.2, by go_num, by go_num, HL5.out⟩, by simp [intOf]; have := HKL.out; omega⟩
              · skip
                have K := HL.out.back 7 (bb : Int)
                rw [back_good hh hbb] at K
                simp only at K
                have e : min (bb + 1) 4 = 4 := by omega
                rw [e] at K
                have HK := Lib.hid K
                have HH : Hid (1 ≤ bb + 1 ∧ bb + 1 ≤ min (4 + 1) 4) := ⟨by omega, by omega⟩
                have hbi : ¬ (h : Int) ≤ bb := by omega
                have hmi : ∀ w, (Builtin.min_ #[3, 3] 3 #[.int .i64 ((bb : Int) + 1), .int .i64 (4 : Int)]).run Try.prog w = .ok (.int .i64 ((4 : Int))) w := fun w => by rw [run_min_int2, show (if (4 : Int) < (bb : Int) + 1 then (4 : Int) else (bb : Int) + 1) = (4 : Int) from by split <;> omega]
                have n1 : IntKind.i64.wrap ((bb : Int) + 1) = (bb : Int) + 1 := IntWalk.i64_in _ (by omega)
                have n2 : IntKind.i64.wrap (128 * (4 : Int)) = 128 * (4 : Int) := IntWalk.i64_in _ (by omega)
                clear K hh h1 hbb e HL hhm
                go_wp2_with fail
                refine HK.out.mono ?_
                rintro e w5 ⟨F5, rfl, L5, -⟩
                have HL5 := Lib.hid L5
                clear L5 HK hmod hml hbb hlm2
                go_wp2
                exact ⟨⟨k + 1, bb + 1, F5, HKL.out, HH.out.1, HH.out.2, by go_num, by go_num, HL5.out⟩, by simp [intOf]; have := HKL.out; omega⟩
          · obtain rfl : k = bs.length := by omega
            have HB9 := Lib.hid hL.below
            clear hL HL4
            go_wp2
            go_ret
            exact ⟨rfl, HB9.out⟩
      · rw [if_neg h4, if_neg h4] at K7
        have h4' : ((j : Int) == 4) = false := by simp; omega
        have h4'' : (j : Int) < 4 := by omega
        have hm : min (j + 1) 4 = j + 1 := by omega
        rw [hm] at K7
        clear hm
        go_wp2_with fail
        refine K7.out.mono ?_
        rintro e w4 ⟨F4, rfl, L4⟩
        have HL4 := Lib.hid L4
        clear L4 K7
        go_wp2
        go_loopw [11, 84] (fun hv i wr => ∃ (k h : Nat) (F : Foot), k ≤ bs.length ∧ 1 ≤ h ∧ h ≤ min (j + 1) 4 ∧ hv = .int .i64 h ∧ i = .int .i64 k ∧ LiveT w wr F q (sb10 j h)) (fun _ i _ => (bs.length - intOf i).toNat)
        case atStart => exact ⟨0, (j + 1), F4, Nat.zero_le _, by omega, by omega, by first | rfl | go_num, rfl, HL4.out⟩
        case round =>
          obtain ⟨k, h, F, hk, h1, hh, rfl, rfl, hL⟩ := hrel
          by_cases hlt : k < bs.length
          · have HL := Lib.hid hL
            have HKL := Lib.hid hlt
            obtain ⟨hcapk, hx⟩ := HV.out
            obtain ⟨b0, off, rfl, c0⟩ := hx k bs[k] (List.getElem?_eq_getElem hlt)
            have c1 := (hL.below.cell (p := ⟨b0, off + k, none⟩) (World.block_lt_of_cell? w _ c0)).trans c0
            have hlti : (k : Int) < bs.length := by omega
            clear hL c0 hx hlt hk HL4
            generalize bs[k] = bv at *
            have hmod := modN_eq bv 5 (by omega) (by omega)
            have hml := modN_lt bv 5 (by omega)
            generalize modN bv 5 = bb at *
            have hhm : h ≤ 4 := by omega
            by_cases hbb : h ≤ bb
            · have K := HL.out.back 7 (bb : Int)
              rw [back_bad hh hbb] at K
              have HK := Lib.hid K
              have HH : Hid (1 ≤ h ∧ h ≤ min (j + 1) 4) := ⟨h1, hh⟩
              have hbi : (h : Int) ≤ bb := by omega
              clear K hh h1 hbb HL hhm
              go_wp2_with fail
              refine HK.out.mono ?_
              rintro e w5 ⟨F5, rfl, L5, -⟩
              have HL5 := Lib.hid L5
              clear L5 HK hmod hml
              go_wp2
              exact ⟨⟨k + 1, h, F5, HKL.out, HH.out.1, HH.out.2, rfl, by go_num, HL5.out⟩, by simp [intOf]; have := HKL.out; omega⟩
            · have hbb := Nat.lt_of_not_le hbb
              by_cases hlm2 : bb < j
              · skip
                have K := HL.out.back 7 (bb : Int)
                rw [back_good hh hbb] at K
                simp only at K
                have e : min (bb + 1) j = bb + 1 := by omega
                rw [e] at K
                have ec : ((bb + 1 : Nat) : Int) = (bb : Int) + 1 := by omega
                rw [ec] at K
                clear ec
                have HK := Lib.hid K
                have HH : Hid (1 ≤ bb + 1 ∧ bb + 1 ≤ min (j + 1) 4) := ⟨by omega, by omega⟩
                have hbi : ¬ (h : Int) ≤ bb := by omega
                have hmi : ∀ w, (Builtin.min_ #[3, 3] 3 #[.int .i64 ((bb : Int) + 1), .int .i64 (j : Int)]).run Try.prog w = .ok (.int .i64 ((bb : Int) + 1)) w := fun w => by rw [run_min_int2, show (if (j : Int) < (bb : Int) + 1 then (j : Int) else (bb : Int) + 1) = (bb : Int) + 1 from by split <;> omega]
                have n1 : IntKind.i64.wrap ((bb : Int) + 1) = (bb : Int) + 1 := IntWalk.i64_in _ (by omega)
                have n2 : IntKind.i64.wrap (128 * ((bb : Int) + 1)) = 128 * ((bb : Int) + 1) := IntWalk.i64_in _ (by omega)
                clear K hh h1 hbb e HL hhm
                go_wp2_with fail
                refine HK.out.mono ?_
                rintro e w5 ⟨F5, rfl, L5, -⟩
                have HL5 := Lib.hid L5
                clear L5 HK hmod hml hbb hlm2
                go_wp2
                exact ⟨⟨k + 1, bb + 1, F5, HKL.out, HH.out.1, HH.out.2, by go_num, by go_num, HL5.out⟩, by simp [intOf]; have := HKL.out; omega⟩
              · skip
                have K := HL.out.back 7 (bb : Int)
                rw [back_good hh hbb] at K
                simp only at K
                have e : min (bb + 1) j = j := by omega
                rw [e] at K
                have HK := Lib.hid K
                have HH : Hid (1 ≤ bb + 1 ∧ bb + 1 ≤ min (j + 1) 4) := ⟨by omega, by omega⟩
                have hbi : ¬ (h : Int) ≤ bb := by omega
                have hmi : ∀ w, (Builtin.min_ #[3, 3] 3 #[.int .i64 ((bb : Int) + 1), .int .i64 (j : Int)]).run Try.prog w = .ok (.int .i64 ((j : Int))) w := fun w => by rw [run_min_int2, show (if (j : Int) < (bb : Int) + 1 then (j : Int) else (bb : Int) + 1) = (j : Int) from by split <;> omega]
                have n1 : IntKind.i64.wrap ((bb : Int) + 1) = (bb : Int) + 1 := IntWalk.i64_in _ (by omega)
                have n2 : IntKind.i64.wrap (128 * (j : Int)) = 128 * (j : Int) := IntWalk.i64_in _ (by omega)
                clear K hh h1 hbb e HL hhm
                go_wp2_with fail
                refine HK.out.mono ?_
                rintro e w5 ⟨F5, rfl, L5, -⟩
                have HL5 := Lib.hid L5
                clear L5 HK hmod hml hbb hlm2
                go_wp2
                exact ⟨⟨k + 1, bb + 1, F5, HKL.out, HH.out.1, HH.out.2, by go_num, by go_num, HL5.out⟩, by simp [intOf]; have := HKL.out; omega⟩
          · obtain rfl : k = bs.length := by omega
            have HB9 := Lib.hid hL.below
            clear hL HL4
            go_wp2
            go_ret
            exact ⟨rfl, HB9.out⟩
end Go.Proofs.Ytfbghdkbimnnbaa
