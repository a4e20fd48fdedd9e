/- The statement DiskAll, walked. -/
import Derived.Test.YtapkelnpkonmpaaDiskQ
namespace Go.Proofs.Ytapkelnpkonmpaa
open Go.RowKit

set_option maxRecDepth 100000 in
set_option maxHeartbeats 16000000 in
theorem walkDiskAll (v : Value) (ops : List OpD) (v' : Value) (ops' : List OpD) (w : World) (hr : ReadsOps w v ops) (hr' : ReadsOps w v' ops') :
    Calls Try.prog 8 #[v, v'] w fun e w' => e = .returned (.bool true) ∧ Below w.heap.size w w' := by
  cases hlong : isLong ops with
  | true =>
    have HL1 := Lib.hid (fun W (hb : Below w.heap.size w W) => long_any v ops W (hr.keep hb) true hlong)
    clear hr hlong hr'
    go_enter Try.func8, Try.ntmps8
    go_wp2_with fail
    refine (Live.make 6 (by omega) (by omega) (Below.refl w.heap.size w)).mono ?_
    rintro e w1 ⟨g, F, rfl, L1⟩
    go_wp2_with fail
    refine (awake_any _).mono ?_
    rintro e w2 ⟨rfl, hb2⟩
    have L2 := L1.more hb2
    go_wp2_with fail
    refine (HL1.out _ L2.below).mono ?_
    rintro e w3 ⟨rfl, hb3⟩
    have L3 := L2.more hb3
    go_wp2_with fail
    refine (awake_any _).mono ?_
    rintro e w5 ⟨rfl, hb5⟩
    have HB := Lib.hid (L3.more hb5).below
    clear L1 L2 L3 hb2 hb3 hb5
    go_wp2
    go_ret
    exact ⟨rfl, HB.out⟩
  | false =>
   have HL1 := Lib.hid (fun W (hb : Below w.heap.size w W) => long_any v ops W (hr.keep hb) false hlong)
   cases hlong' : isLong ops' with
   | true =>
    have HL2 := Lib.hid (fun W (hb : Below w.heap.size w W) => long_any v' ops' W (hr'.keep hb) true hlong')
    clear hr hlong hr' hlong'
    go_enter Try.func8, Try.ntmps8
    go_wp2_with fail
    refine (Live.make 6 (by omega) (by omega) (Below.refl w.heap.size w)).mono ?_
    rintro e w1 ⟨g, F, rfl, L1⟩
    go_wp2_with fail
    refine (awake_any _).mono ?_
    rintro e w2 ⟨rfl, hb2⟩
    have L2 := L1.more hb2
    go_wp2_with fail
    refine (HL1.out _ L2.below).mono ?_
    rintro e w3 ⟨rfl, hb3⟩
    have L3 := L2.more hb3
    go_wp2_with fail
    refine (HL2.out _ L3.below).mono ?_
    rintro e w4 ⟨rfl, hb4⟩
    have L4 := L3.more hb4
    go_wp2_with fail
    refine (awake_any _).mono ?_
    rintro e w5 ⟨rfl, hb5⟩
    have HB := Lib.hid (L4.more hb5).below
    clear L1 L2 L3 L4 hb2 hb3 hb4 hb5
    go_wp2
    go_ret
    exact ⟨rfl, HB.out⟩
   | false =>
    have HL2 := Lib.hid (fun W (hb : Below w.heap.size w W) => long_any v' ops' W (hr'.keep hb) false hlong')
    obtain ⟨ad, cap, hv, hcap, hcm, hops⟩ := hr
    subst hv
    obtain ⟨ad', capB, hv', hcap', hcm', hops'⟩ := hr'
    subst hv'
    have HOPS := Lib.hid hops
    have HOPS' := Lib.hid hops'
    have hl : ops.length ≤ 9223372036854775807 := by unfold maxLen at hcm; omega
    have hl' : ops'.length ≤ 9223372036854775807 := by unfold maxLen at hcm'; omega
    have hl300 := isLong_le hlong
    have hl300' := isLong_le hlong'
    clear hops hlong hops' hlong'
    go_enter Try.func8, Try.ntmps8
    go_wp2_with fail
    refine (Live.make 6 (by omega) (by omega) (Below.refl w.heap.size w)).mono ?_
    rintro e w1 ⟨g, F, rfl, L1⟩
    go_wp2_with fail
    refine (awake_any _).mono ?_
    rintro e w2 ⟨rfl, hb2⟩
    have L2 := L1.more hb2
    go_wp2_with fail
    refine (HL1.out _ L2.below).mono ?_
    rintro e w3 ⟨rfl, hb3⟩
    have L3 := L2.more hb3
    go_wp2_with fail
    refine (HL2.out _ L3.below).mono ?_
    rintro e w4 ⟨rfl, hb4⟩
    have L4 := L3.more hb4
    go_wp2_with fail
    have hF := Plain.start 6
    generalize Dk.new 6 = D at *
    have HF := Lib.hid hF
    clear L1 L2 L3 hb2 hb3 hb4 hF
    go_loopw [48] (fun vj wr => ∃ (j : Nat) (F : Foot) (D : Dk), j ≤ ops.length ∧ vj = .int .i64 j ∧ Live w wr F g D ∧ Plain D 6 j) (fun vj _ => ops.length - (intOf vj).toNat)
    case atStart => exact ⟨0, F, D, Nat.zero_le _, rfl, L4, HF.out⟩
    case round =>
      obtain ⟨j, F5, D5, hj, rfl, L5, hF5⟩ := hrel
      clear HF L4
      by_cases hlt : j < ops.length
      · obtain ⟨blk, off, np, cap', ha, pa, c0, c1, c2, c3, c4, _⟩ := op_cells HOPS.out L5.below hlt
        subst ha
        generalize ops[j].kind = kd at *
        generalize ops[j].i = oi at *
        generalize ops[j].n = on at *
        generalize ops[j].s = os at *
        have hwl : D5.waits.length < 16777216 := by have := hF5.waits; omega
        have LX := Lib.hid (L5.more ((Below.refl _ _).alloc (Nat.le_refl _) (.cells #[.int .i64 kd, .int .i64 oi, .int .i64 on, .int .u8 (os.toNat : Int), .slice pa np cap'] 33)))
        have BX := Lib.hid (Blk.new wr 33 #[.int .i64 kd, .int .i64 oi, .int .i64 on, .int .u8 (os.toNat : Int), .slice pa np cap'])
        have hx := sec_eq oi 6 (by omega) (by omega)
        have hxl := secN_lt oi 6 (by omega)
        generalize secN oi 6 = x at *
        have HX := Lib.hid hx
        have HWL := Lib.hid hwl
        obtain ⟨f1, f2⟩ := hF5.write x (fullS os) ⟨by omega, by omega⟩ (fullS_size os)
        have HS := Lib.hid f1
        have HE := Lib.hid f2
        clear f1 f2 hx hwl hF5 L5
        go_wp2_with fail
        refine' wp_region_conf 9 [.is _, .is _, .is _, .is _, .is _, .is _, .is _, .is _, .is _] (by kernel_rfl) (by kernel_rfl) (by kernel_rfl) (by kernel_rfl) rfl ?main
        case main =>
          iterate 9
            refine obs_is (fun w5 hE2 _ => ?_) ?_
            · have bx := BX.out.drew.keep hE2 BX.out.lt
              have b1 := bx.cell 1
              have b3 := bx.cell 3
              clear bx
              go_wp2_with (go_at_call 13; refine (full_any os _).mono ?_; rintro e w6 ⟨rfl, hb6⟩)
              first | exact post_is hb6 | exact post_is (Below.refl _ _)
            simp only [Act.put, List.setIfInBounds_toArray, List.set_cons_zero, List.set_cons_succ]
          refine obs_end fun w5 hE3 _ => ?_
          have L6 := LX.out.drew.more hE3
          have H := Lib.hid (L6.write x (fullS os) HWL.out 0 HE.out rfl)
          clear L6
          change wpList _ _ _ _ _ _
          go_wp2_with fail
          rw [HX.out]
          refine H.out.mono ?_
          rintro e w6 ⟨rfl, F6, L6⟩
          go_wp2
          go_roundw
          case rel => exact ⟨j + 1, F6, _, by omega, by go_num, L6, HS.out⟩
          case measure => simp [intOf]; omega
      · obtain rfl : j = ops.length := by omega
        obtain ⟨f1, f2⟩ := hF5.sync
        have hs0 : Plain D5.sync 6 0 := f1.weak (by rw [hF5.sync_is]; exact Nat.le_refl _)
        have HS := Lib.hid hs0
        have HE := Lib.hid f2
        clear f1 f2 hs0 hF5
        go_wp2_with fail
        refine (L5.sync 0 HE.out rfl).mono ?_
        rintro e w6 ⟨rfl, F6, L6⟩
        generalize D5.sync = S at *
        have hwS : S.waits.length ≤ 100000000 := by have := HS.out.waits; omega
        go_wp2_with fail
        refine (Many.copy (l := []) (r := []) (Many.one L6) hwS).mono ?_
        rintro e w7 ⟨gs, Fs, rfl, M7⟩
        clear L5 L6 hwS
        go_wp2_with fail
        have hF0 : Plain S 6 0 := HS.out
        go_loopw [69] (fun vj wr => ∃ (j : Nat) (F : Foot) (D : Dk), j ≤ ops'.length ∧ vj = .int .i64 j ∧ Many w wr [(F, g, D), (Fs, gs, S)] ∧ Plain D 6 j ∧ D.safe = S.safe) (fun vj _ => ops'.length - (intOf vj).toNat)
        case atStart => exact ⟨0, F6, S, Nat.zero_le _, rfl, M7, hF0, rfl⟩
        case round =>
          obtain ⟨j, F5, D5, hj, rfl, L5, hF5, hsafe⟩ := hrel
          clear M7
          by_cases hlt : j < ops'.length
          · obtain ⟨blk, off, np, cap', ha, pa, c0, c1, c2, c3, c4, _⟩ := op_cells HOPS'.out L5.below hlt
            subst ha
            generalize ops'[j].kind = kd at *
            generalize ops'[j].i = oi at *
            generalize ops'[j].n = on at *
            generalize ops'[j].s = os at *
            have hwl : D5.waits.length < 16777216 := by have := hF5.waits; omega
            have LX := Lib.hid (L5.more ((Below.refl _ _).alloc (Nat.le_refl _) (.cells #[.int .i64 kd, .int .i64 oi, .int .i64 on, .int .u8 (os.toNat : Int), .slice pa np cap'] 33)))
            have BX := Lib.hid (Blk.new wr 33 #[.int .i64 kd, .int .i64 oi, .int .i64 on, .int .u8 (os.toNat : Int), .slice pa np cap'])
            have hx := sec_eq oi 6 (by omega) (by omega)
            have hxl := secN_lt oi 6 (by omega)
            generalize secN oi 6 = x at *
            have HX := Lib.hid hx
            have HWL := Lib.hid hwl
            obtain ⟨f1, f2⟩ := hF5.write x (fullS os) ⟨by omega, by omega⟩ (fullS_size os)
            have HS1 := Lib.hid f1
            have HE1 := Lib.hid f2
            have HSF : Hid ((D5.write x (fullS os)).safe = S.safe) := by show _ = _; rw [hF5.write_is x _ ⟨by omega, by omega⟩ (fullS_size os)]; exact hsafe
            clear f1 f2 hx hwl hF5 L5 hsafe hF0
            go_wp2_with fail
            refine' wp_region_conf 9 [.is _, .is _, .is _, .is _, .is _, .is _, .is _, .is _, .is _] (by kernel_rfl) (by kernel_rfl) (by kernel_rfl) (by kernel_rfl) rfl ?main
            case main =>
              iterate 9
                refine obs_is (fun w5 hE2 _ => ?_) ?_
                · have bx := BX.out.drew.keep hE2 BX.out.lt
                  have b1 := bx.cell 1
                  have b3 := bx.cell 3
                  clear bx
                  go_wp2_with (go_at_call 13; refine (full_any os _).mono ?_; rintro e w6 ⟨rfl, hb6⟩)
                  first | exact post_is hb6 | exact post_is (Below.refl _ _)
                simp only [Act.put, List.setIfInBounds_toArray, List.set_cons_zero, List.set_cons_succ]
              refine obs_end fun w5 hE3 _ => ?_
              have L6 := LX.out.drew.more hE3
              have H := Lib.hid (Many.write (l := []) (r := [(Fs, gs, S)]) L6 x (fullS os) HWL.out 0 HE1.out rfl)
              clear L6
              change wpList _ _ _ _ _ _
              go_wp2_with fail
              rw [HX.out]
              refine H.out.mono ?_
              rintro e w6 ⟨rfl, F6, L6⟩
              go_wp2
              go_roundw
              case rel => exact ⟨j + 1, F6, _, by omega, by go_num, L6, HS1.out, HSF.out⟩
              case measure => simp [intOf]; omega
          · obtain rfl : j = ops'.length := by omega
            have hX := hF5.sync
            have hc1 := hF5.crash_one
            have hc0 := hF5.crash_zero hF0 hsafe
            have hw : D5.waits.length ≤ 100000000 := by have := hF5.waits; omega
            have HX := Lib.hid hX
            have HC1 := Lib.hid hc1
            have HC0 := Lib.hid hc0
            have HW := Lib.hid hw
            clear hX hc1 hc0 hw hF5 hF0 hsafe
            go_wp2_with fail
            refine (Many.copy (l := []) (r := [(Fs, gs, S)]) L5 HW.out).mono ?_
            rintro e w8 ⟨gb, Fb, rfl, M8⟩
            go_wp2_with fail
            refine (Many.copy (l := []) (r := [(Fs, gs, S), (Fb, gb, D5)]) M8 HW.out).mono ?_
            rintro e w9 ⟨gc, Fc, rfl, M9⟩
            go_wp2_with fail
            have lt9 := (M9.each (F5, g, D5) (by simp)).1.lt
            refine (Many.crash (l := []) (r := [(Fs, gs, S), (Fb, gb, D5), (Fc, gc, D5)]) (M9.more ((Below.refl _ _).alloc (Nat.le_refl _) _)) _ [1] (reads_one w9 1) (fun b hb hF => by
              simp only [Value.ownBlock, Option.some.injEq] at hb
              have := lt9 b hF
              omega) HC1.out).mono ?_
            rintro e w10 ⟨rfl, Fa, M10⟩
            go_wp2_with fail
            refine (Many.sync (l := [(Fa, g, D5.sync), (Fs, gs, S)]) (r := [(Fc, gc, D5)]) M10 0 HX.out.2 rfl).mono ?_
            rintro e w11 ⟨rfl, Fb', M11⟩
            go_wp2_with fail
            have lt11 := (M11.each (Fc, gc, D5) (by simp)).1.lt
            refine (Many.crash (l := [(Fa, g, D5.sync), (Fs, gs, S), (Fb', gb, D5.sync)]) (r := []) (M11.more ((Below.refl _ _).alloc (Nat.le_refl _) _)) _ [0] (reads_one w11 0) (fun b hb hF => by
              simp only [Value.ownBlock, Option.some.injEq] at hb
              have := lt11 b hF
              omega) HC0.out).mono ?_
            rintro e w12 ⟨rfl, Fc', M12⟩
            have hXp := HX.out.1
            generalize D5.sync = X at *
            have HXP := Lib.hid hXp
            clear L5 M8 M9 M10 M11 lt9 lt11 hXp
            have HM : Hid (Many w w12 [(Fa, g, X), (Fs, gs, S), (Fb', gb, X), (Fc', gc, S)]) := M12
            clear M12
            go_wp2_with fail
            go_loopw [96] (fun vk wr => ∃ k : Nat, k ≤ 6 ∧ vk = .int .i64 k ∧ Many w wr [(Fa, g, X), (Fs, gs, S), (Fb', gb, X), (Fc', gc, S)]) (fun vk _ => 6 - (intOf vk).toNat)
            case atStart => exact ⟨0, by omega, rfl, HM.out⟩
            case round =>
              obtain ⟨k, hk, rfl, M⟩ := hrel
              clear HM
              by_cases hk6 : k < 6
              · have hki : (0 : Int) ≤ (k : Int) ∧ (k : Int) < (6 : Nat) := ⟨by omega, by omega⟩
                have E1 := Lib.hid (HXP.out.reach k hki)
                have E2 := Lib.hid (HS.out.reach k hki)
                clear hki
                go_wp2_with fail
                refine (Many.read (l := []) (r := [(Fs, gs, S), (Fb', gb, X), (Fc', gc, S)]) M k 0 E1.out _ rfl).mono ?_
                rintro e w13 ⟨rfl, hb13⟩
                have M13 := M.more hb13
                go_wp2_with fail
                refine (Many.read (l := [(Fa, g, X), (Fs, gs, S)]) (r := [(Fc', gc, S)]) M13 k 0 E1.out _ rfl).mono ?_
                rintro e w14 ⟨rfl, hb14⟩
                have M14 := M13.more hb14
                go_wp2_with fail
                refine (Many.read (l := [(Fa, g, X), (Fs, gs, S), (Fb', gb, X)]) (r := []) M14 k 0 E2.out _ rfl).mono ?_
                rintro e w15 ⟨rfl, hb15⟩
                have M15 := M14.more hb15
                go_wp2_with fail
                refine (Many.read (l := [(Fa, g, X)]) (r := [(Fb', gb, X), (Fc', gc, S)]) M15 k 0 E2.out _ rfl).mono ?_
                rintro e w16 ⟨rfl, hb16⟩
                have M16 := Lib.hid (M15.more hb16)
                clear M M13 M14 M15 hb13 hb14 hb15 hb16
                go_wp2
                go_roundw
                case rel => exact ⟨k + 1, by omega, by go_num, M16.out⟩
                case measure => simp [intOf]; omega
              · have HB := Lib.hid M.below
                clear M
                go_wp2
                go_ret
                exact ⟨rfl, HB.out⟩
end Go.Proofs.Ytapkelnpkonmpaa
