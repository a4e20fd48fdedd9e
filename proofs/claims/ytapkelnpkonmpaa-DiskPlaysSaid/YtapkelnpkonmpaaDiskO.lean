/- The statement DiskFuse, walked. -/
import Derived.Test.YtapkelnpkonmpaaOps
import Derived.Test.YtapkelnpkonmpaaRegionF
namespace Go.Proofs.Ytapkelnpkonmpaa
open Go.RowKit

/-- Behind j writes and syncs with a fuse of k. -/
structure Fused (d : Dk) (n k j : Nat) : Prop where
  size : d.safe.length = n
  waits : d.waits.length ≤ j
  now : (j ≤ k ∧ d.gone = false ∧ d.fuse = some (k - j)) ∨ (k < j ∧ d.gone = true)
namespace Fused
variable {d : Dk} {n k j : Nat}
theorem bears_yes (h : Fused d n k j) (hj : j < k) : d.bears = true := by
  rcases h.now with ⟨_, h1, h2⟩ | ⟨h1, _⟩
  · unfold Dk.bears; rw [h1, h2]; simp; omega
  · omega
theorem bears_no (h : Fused d n k j) (hj : ¬ j < k) : d.bears = false := by
  rcases h.now with ⟨h0, h1, h2⟩ | ⟨_, h1⟩
  · unfold Dk.bears; rw [h1, h2]; simp; omega
  · unfold Dk.bears; rw [h1]; simp
theorem bears (h : Fused d n k j) : d.bears = decide (j < k) := by
  by_cases hj : j < k
  · rw [h.bears_yes hj]; simp [hj]
  · rw [h.bears_no hj]; simp [hj]
theorem burn (h : Fused d n k j) (w : List (Nat × ByteArray)) (s : List ByteArray) (hw : w.length ≤ j + 1) (hs : s.length = n) : Fused { d.burn with safe := s, waits := w } n k (j + 1) := by
  refine ⟨hs, hw, ?_⟩
  unfold Dk.burn
  by_cases hj : j < k
  · rw [if_pos (h.bears_yes hj)]
    rcases h.now with ⟨h0, h1, h2⟩ | ⟨h0, _⟩
    · exact .inl ⟨by omega, h1, by simp [h2]; omega⟩
    · omega
  · rw [if_neg (by rw [h.bears_no hj]; simp)]
    exact .inr ⟨by omega, rfl⟩
theorem sync (h : Fused d n k j) : Fused d.sync n k (j + 1) ∧ d.syncE = if j < k then 0 else 4 := by
  unfold Dk.sync Dk.syncE
  rw [h.bears]
  by_cases hj : j < k
  · simp only [hj, decide_true, if_true]
    exact ⟨h.burn [] _ (by simp) (by unfold Dk.settled; rw [settleTo_len]; exact h.size), trivial⟩
  · simp only [hj, decide_false, if_false]
    refine ⟨?_, by simp⟩
    have := h.burn d.burn.waits d.burn.safe (by rw [Dk.burn_waits]; have := h.waits; omega) (by rw [Dk.burn_safe]; exact h.size)
    exact this
theorem write (h : Fused d n k j) (i : Int) (s : ByteArray) (hi : 0 ≤ i ∧ i < n) (hs : s.size = 128) : Fused (d.write i s) n k (j + 1) ∧ d.writeE i s = if j < k then 0 else 4 := by
  have hh : d.has i := ⟨hi.1, by rw [h.size]; exact hi.2⟩
  unfold Dk.write Dk.writeE
  rw [if_pos hh, if_pos hh, if_pos hs, if_pos hs, h.bears]
  by_cases hj : j < k
  · simp only [hj, decide_true, if_true]
    refine ⟨?_, trivial⟩
    have := h.burn (d.waits ++ [(i.toNat, s)]) d.burn.safe (by have := h.waits; simp; omega) (by rw [Dk.burn_safe]; exact h.size)
    exact this
  · simp only [hj, decide_false, if_false]
    refine ⟨?_, by simp⟩
    have := h.burn d.burn.waits d.burn.safe (by rw [Dk.burn_waits]; have := h.waits; omega) (by rw [Dk.burn_safe]; exact h.size)
    exact this
theorem gone (h : Fused d n k j) : d.gone = decide (k < j) := by
  rcases h.now with ⟨h0, h1, _⟩ | ⟨h0, h1⟩
  · rw [h1]; simp; omega
  · rw [h1]; simp [h0]
theorem start (n k : Nat) : Fused ((Dk.new n).arm (k : Int)) n k 0 := ⟨by simp [Dk.new, Dk.arm], by simp [Dk.new, Dk.arm], .inl ⟨Nat.zero_le _, rfl, by simp [Dk.arm]⟩⟩
end Fused

/-- 'int(uint(i) % m)'. -/
def secN (i m : Int) : Nat := (IntKind.u64.wrap i % m).toNat
theorem u64_pos (i : Int) : 0 ≤ IntKind.u64.wrap i := by rw [IntKind.wrap_u64]; omega
theorem secN_lt (i m : Int) (hm : 0 < m) : (secN i m : Int) < m := by
  have h1 := Int.emod_lt_of_pos (IntKind.u64.wrap i) hm
  have h2 := Int.emod_nonneg (IntKind.u64.wrap i) (Int.ne_of_gt hm)
  unfold secN; omega
theorem sec_eq (i m : Int) (hm : 0 < m) (hm2 : m ≤ 1000) : wrap64 ((IntKind.u64.wrap i).tmod m) = (secN i m : Int) := by
  have h1 := Int.emod_lt_of_pos (IntKind.u64.wrap i) hm
  have h2 := Int.emod_nonneg (IntKind.u64.wrap i) (Int.ne_of_gt hm)
  rw [Int.tmod_eq_emod_of_nonneg (u64_pos i)]
  unfold secN
  generalize IntKind.u64.wrap i % m = x at *
  unfold wrap64
  omega

set_option maxRecDepth 100000 in
set_option maxHeartbeats 8000000 in
theorem walkDiskFuse (i : Int) (v : Value) (ops : List OpD) (w : World) (_ : (Lit.int .i64 i).wf = true) (hr : ReadsOps w v ops) :
    Calls Try.prog 5 #[.int .i64 i, v] w fun e w' => e = .returned (.bool true) ∧ Below w.heap.size w w' := by
  cases hlong : isLong ops with
  | true =>
    have HL := Lib.hid (fun W (hb : Below w.heap.size w W) => long_any v ops W (hr.keep hb) true hlong)
    clear hr hlong
    go_enter Try.func5, Try.ntmps5
    go_wp2_with fail
    refine (Live.make 4 (by omega) (by omega) (Below.refl w.heap.size w)).mono ?_
    rintro e w1 ⟨g, F, rfl, L1⟩
    go_wp2_with fail
    refine (awake_any _).mono ?_
    rintro e w2 ⟨rfl, hb2⟩
    have L2 := L1.more hb2
    go_wp2_with fail
    refine (HL.out _ L2.below).mono ?_
    rintro e w3 ⟨rfl, hb3⟩
    have L3 := L2.more hb3
    go_wp2_with fail
    refine (awake_any _).mono ?_
    rintro e w4 ⟨rfl, hb4⟩
    have HB := Lib.hid (L3.more hb4).below
    clear L1 L2 L3 hb2 hb3 hb4
    go_wp2
    go_ret
    exact ⟨rfl, HB.out⟩
  | false =>
    have HL := Lib.hid (fun W (hb : Below w.heap.size w W) => long_any v ops W (hr.keep hb) false hlong)
    have hk := sec_eq i 50 (by omega) (by omega)
    have hk50 := secN_lt i 50 (by omega)
    generalize secN i 50 = k at *
    have HK := Lib.hid hk
    obtain ⟨ad, cap, hv, hcap, hcm, hops⟩ := hr
    subst hv
    have HOPS := Lib.hid hops
    have hl : ops.length ≤ 9223372036854775807 := by unfold maxLen at hcm; omega
    have hl300 := isLong_le hlong
    clear hops hlong hk
    go_enter Try.func5, Try.ntmps5
    go_wp2_with fail
    refine (Live.make 4 (by omega) (by omega) (Below.refl w.heap.size w)).mono ?_
    rintro e w1 ⟨g, F, rfl, L1⟩
    go_wp2_with fail
    refine (awake_any _).mono ?_
    rintro e w2 ⟨rfl, hb2⟩
    have L2 := L1.more hb2
    go_wp2_with fail
    refine (HL.out _ L2.below).mono ?_
    rintro e w3 ⟨rfl, hb3⟩
    have L3 := L2.more hb3
    go_wp2_with fail
    rw [HK.out]
    refine (L3.arm k (by omega) rfl).mono ?_
    rintro e w4 ⟨rfl, F4, L4⟩
    have hF := Fused.start 4 k
    generalize (Dk.new 4).arm (k : Int) = D at *
    have HF := Lib.hid hF
    clear L1 L2 L3 hb2 hb3 hF
    go_wp2_with fail
    go_loopw [7, 39] (fun vb vj wr => ∃ (j : Nat) (F : Foot) (D : Dk), j ≤ ops.length ∧ vj = .int .i64 j ∧ vb = .int .i64 (min k j : Nat) ∧ Live w wr F g D ∧ Fused D 4 k j) (fun _ vj _ => ops.length - (intOf vj).toNat)
    case atStart => exact ⟨0, F4, D, Nat.zero_le _, rfl, by simp, L4, HF.out⟩
    case round =>
      obtain ⟨j, F5, D5, hj, rfl, rfl, L5, hF5⟩ := hrel
      clear HF L4
      by_cases hlt : j < ops.length
      · obtain ⟨blk, off, ha, ho⟩ := HOPS.out j _ (List.getElem?_eq_getElem hlt)
        subst ha
        have hlb := World.block_lt_of_cell? w _ ho.c0
        have c := fun x => L5.below.cell (p := ⟨blk, x, none⟩) hlb
        have c0 := (c _).trans ho.c0
        have c1 := (c _).trans ho.c1
        have c2 := (c _).trans ho.c2
        have c3 := (c _).trans ho.c3
        have c4 := (c _).trans ho.c4
        obtain ⟨a', cap', hpv, _⟩ := ho.picks
        rw [byteVs_len] at hpv
        rw [hpv] at c4
        clear c ho hpv
        generalize ops[j].picks.length = np at *
        generalize ops[j].kind = kd at *
        generalize ops[j].i = oi at *
        generalize ops[j].n = on at *
        generalize ops[j].s = os at *
        have hwl : D5.waits.length < 16777216 := by have := hF5.waits; omega
        have HF5 := Lib.hid hF5
        have L5x := L5.more ((Below.refl _ _).alloc (Nat.le_refl _) (.cells #[.int .i64 kd, .int .i64 oi, .int .i64 on, .int .u8 (os.toNat : Int), .slice a' np cap'] 33))
        have bx := Blk.new wr 33 #[.int .i64 kd, .int .i64 oi, .int .i64 on, .int .u8 (os.toNat : Int), .slice a' np cap']
        clear hF5 L5
        by_cases hk2 : kd = 2
        · subst hk2
          obtain ⟨f1, f2⟩ := HF5.out.sync
          by_cases hjk : j < k
          · rw [if_pos hjk] at f2
            have HS := Lib.hid f1
            have H := Lib.hid (L5x.sync 0 f2 rfl)
            have hm1 : min k j = j := by omega
            have hm2 : min k (j + 1) = j + 1 := by omega
            rw [hm1]
            clear f1 f2 L5x bx
            go_wp2_with fail
            refine H.out.mono ?_
            rintro e w6 ⟨rfl, F6, L6⟩
            go_wp2
            go_roundw
            case rel => exact ⟨j + 1, F6, _, by omega, by go_num, by rw [hm2]; go_num, L6, HS.out⟩
            case measure => simp [intOf]; omega
          · rw [if_neg hjk] at f2
            have HS := Lib.hid f1
            have H := Lib.hid (L5x.sync 4 f2 rfl)
            have hm1 : min k j = k := by omega
            have hm2 : min k (j + 1) = k := by omega
            rw [hm1]
            clear f1 f2 L5x bx
            go_wp2_with fail
            refine H.out.mono ?_
            rintro e w6 ⟨rfl, F6, L6⟩
            go_wp2
            go_roundw
            case rel => exact ⟨j + 1, F6, _, by omega, by go_num, by rw [hm2], L6, HS.out⟩
            case measure => simp [intOf]; omega
        · have hx := sec_eq oi 4 (by omega) (by omega)
          have hxl := secN_lt oi 4 (by omega)
          generalize secN oi 4 = x at *
          have hkd : (kd == 2) = false := by rw [beq_eq_false_iff_ne]; exact hk2
          have HX := Lib.hid hx
          have LX := Lib.hid L5x
          have BX := Lib.hid bx
          have HWL := Lib.hid hwl
          obtain ⟨f1, f2⟩ := HF5.out.write x (fullS os) ⟨by omega, by omega⟩ (fullS_size os)
          have HS := Lib.hid f1
          by_cases hjk : j < k
          · rw [if_pos hjk] at f2
            have HE := Lib.hid f2
            have hm1 : min k j = j := by omega
            have hm2 : min k (j + 1) = j + 1 := by omega
            rw [hm1]
            clear f1 f2 L5x bx hx hwl hk2
            go_wp2_with fail
            refine' wp_region_conf 9 [.is _, .is _, .is _, .is _, .is _, .is _, .is _, .is _, .is _] (by kernel_rfl) (by kernel_rfl) (by kernel_rfl) (by kernel_rfl) rfl ?main
            case main =>
              iterate 9
                refine obs_is (fun w5 hE2 _ => ?_) ?_
                · have bx := BX.out.drew.keep hE2 BX.out.lt
                  have b1 := bx.cell 1
                  have b3 := bx.cell 3
                  clear bx
                  go_wp2_with (go_at_call 13; refine (full_any os _).mono ?_; rintro e w6 ⟨rfl, hb6⟩)
                  first | exact post_is hb6 | exact post_is (Below.refl _ _)
                simp only [Act.put, List.setIfInBounds_toArray, List.set_cons_zero, List.set_cons_succ]
              refine obs_end fun w5 hE3 _ => ?_
              have L6 := LX.out.drew.more hE3
              have H := Lib.hid (L6.write x (fullS os) HWL.out 0 HE.out rfl)
              clear L6
              change wpList _ _ _ _ _ _
              go_wp2_with fail
              rw [HX.out]
              refine H.out.mono ?_
              rintro e w6 ⟨rfl, F6, L6⟩
              go_wp2
              go_roundw
              case rel => exact ⟨j + 1, F6, _, by omega, by go_num, by rw [hm2]; go_num, L6, HS.out⟩
              case measure => simp [intOf]; omega
          · rw [if_neg hjk] at f2
            have HE := Lib.hid f2
            have hm1 : min k j = k := by omega
            have hm2 : min k (j + 1) = k := by omega
            rw [hm1]
            clear f1 f2 L5x bx hx hwl hk2
            go_wp2_with fail
            refine' wp_region_conf 9 [.is _, .is _, .is _, .is _, .is _, .is _, .is _, .is _, .is _] (by kernel_rfl) (by kernel_rfl) (by kernel_rfl) (by kernel_rfl) rfl ?main
            case main =>
              iterate 9
                refine obs_is (fun w5 hE2 _ => ?_) ?_
                · have bx := BX.out.drew.keep hE2 BX.out.lt
                  have b1 := bx.cell 1
                  have b3 := bx.cell 3
                  clear bx
                  go_wp2_with (go_at_call 13; refine (full_any os _).mono ?_; rintro e w6 ⟨rfl, hb6⟩)
                  first | exact post_is hb6 | exact post_is (Below.refl _ _)
                simp only [Act.put, List.setIfInBounds_toArray, List.set_cons_zero, List.set_cons_succ]
              refine obs_end fun w5 hE3 _ => ?_
              have L6 := LX.out.drew.more hE3
              have H := Lib.hid (L6.write x (fullS os) HWL.out 4 HE.out rfl)
              clear L6
              change wpList _ _ _ _ _ _
              go_wp2_with fail
              rw [HX.out]
              refine H.out.mono ?_
              rintro e w6 ⟨rfl, F6, L6⟩
              go_wp2
              go_roundw
              case rel => exact ⟨j + 1, F6, _, by omega, by go_num, by rw [hm2], L6, HS.out⟩
              case measure => simp [intOf]; omega
      · obtain rfl : j = ops.length := by omega
        have hg := hF5.gone
        have hcr : (D5.crash []).gone = false := rfl
        have hsy : (D5.crash []).syncE = 0 := rfl
        have HG := Lib.hid hg
        have HCR := Lib.hid hcr
        have HSY := Lib.hid hsy
        have hmin : min (k : Int) (ops.length : Int) = ((min k ops.length : Nat) : Int) := by omega
        generalize min k ops.length = q at hmin ⊢
        clear hF5 hg hcr hsy
        have key : ∃ b : Bool, D5.gone = b ∧ decide (k < ops.length) = b := ⟨_, HG.out, rfl⟩
        obtain ⟨b, hgb, hdecN⟩ := key
        have hdec : decide ((k : Int) < (ops.length : Int)) = b := by rw [← hdecN]; simp
        have HGB := Lib.hid hgb
        clear HG hgb
        by_cases hlk : ops.length < k
        all_goals
          cases b
          all_goals
            go_wp2_with fail
            refine (L5.dead _ HGB.out).mono ?_
            rintro e w6 ⟨rfl, rfl⟩
            go_wp2_with fail
            refine (L5.crash (.slice none 0 0) [] (Reads.empty _ _ _) (fun _ b hb => by simp [Value.ownBlock] at hb) rfl).mono ?_
            rintro e w6 ⟨rfl, F6, L6⟩
            go_wp2_with fail
            refine (L6.dead false HCR.out).mono ?_
            rintro e w7 ⟨rfl, rfl⟩
            go_wp2_with fail
            refine (L6.sync 0 HSY.out rfl).mono ?_
            rintro e w7 ⟨rfl, F7, L7⟩
            have HB := Lib.hid L7.below
            clear L5 L6 L7
            go_wp2
            go_ret
            exact ⟨rfl, HB.out⟩
end Go.Proofs.Ytapkelnpkonmpaa
