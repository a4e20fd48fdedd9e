/- The statement DiskLast, walked. -/
import Derived.Test.YtapkelnpkonmpaaDiskO
namespace Go.Proofs.Ytapkelnpkonmpaa
open Go.RowKit

/-- A disk with its power and without a fuse, of which no more than j writes wait. -/
structure Plain (d : Dk) (n j : Nat) : Prop where
  size : d.safe.length = n
  waits : d.waits.length ≤ j
  gone : d.gone = false
  fuse : d.fuse = none
namespace Plain
variable {d : Dk} {n j : Nat}
theorem bears (h : Plain d n j) : d.bears = true := by unfold Dk.bears; rw [h.gone, h.fuse]; rfl
theorem burn (h : Plain d n j) : d.burn = d := by
  unfold Dk.burn
  rw [if_pos h.bears, h.fuse]
  cases d
  have := h.fuse
  simp at this
  subst this
  rfl
theorem reach (h : Plain d n j) (i : Int) (hi : 0 ≤ i ∧ i < n) : d.reachE i = 0 := by
  unfold Dk.reachE
  rw [h.gone, if_neg (by simp), if_pos ⟨hi.1, by rw [h.size]; exact hi.2⟩]
theorem sync_is (h : Plain d n j) : d.sync = { d with safe := d.settled fun _ => 1, waits := [] } := by
  unfold Dk.sync
  rw [if_pos h.bears, h.burn]
theorem sync (h : Plain d n j) : Plain d.sync n (j + 1) ∧ d.syncE = 0 := by
  refine ⟨?_, by unfold Dk.syncE; rw [h.bears]; rfl⟩
  rw [h.sync_is]
  exact ⟨by show (d.settled _).length = n; unfold Dk.settled; rw [settleTo_len]; exact h.size, Nat.zero_le _, h.gone, h.fuse⟩
theorem write_is (h : Plain d n j) (i : Int) (s : ByteArray) (hi : 0 ≤ i ∧ i < n) (hs : s.size = 128) : d.write i s = { d with waits := d.waits ++ [(i.toNat, s)] } := by
  have hh : d.has i := ⟨hi.1, by rw [h.size]; exact hi.2⟩
  unfold Dk.write
  rw [if_pos hh, if_pos hs, if_pos h.bears, h.burn]
theorem write (h : Plain d n j) (i : Int) (s : ByteArray) (hi : 0 ≤ i ∧ i < n) (hs : s.size = 128) : Plain (d.write i s) n (j + 1) ∧ d.writeE i s = 0 := by
  have hh : d.has i := ⟨hi.1, by rw [h.size]; exact hi.2⟩
  refine ⟨?_, by unfold Dk.writeE; rw [if_pos hh, if_pos hs, if_pos h.bears]⟩
  rw [h.write_is i s hi hs]
  exact ⟨h.size, by have := h.waits; simp; omega, h.gone, h.fuse⟩
theorem read (h : Plain d n j) (i : Int) (hi : 0 ≤ i ∧ i < n) : d.read i = d.at_ i := by unfold Dk.read; rw [if_pos (h.reach i hi)]
theorem at_same (h : Plain d n j) (i : Int) (s : ByteArray) (hi : 0 ≤ i ∧ i < n) (hs : s.size = 128) : (d.write i s).at_ i = s := by
  rw [h.write_is i s hi hs]
  unfold Dk.at_
  rw [lastOf_snoc, if_pos (by show ((i.toNat : Nat) : Int) = i; omega)]
  rfl
theorem at_other (h : Plain d n j) (i c : Int) (s : ByteArray) (hi : 0 ≤ i ∧ i < n) (hs : s.size = 128) (hc : c ≠ i) : (d.write i s).at_ c = d.at_ c := by
  rw [h.write_is i s hi hs]
  unfold Dk.at_
  rw [lastOf_snoc, if_neg (by show ¬ ((i.toNat : Nat) : Int) = c; omega)]
theorem start (n : Nat) : Plain (Dk.new n) n 0 := ⟨by simp [Dk.new], by simp [Dk.new], rfl, rfl⟩
end Plain

set_option maxRecDepth 100000 in
set_option maxHeartbeats 8000000 in
theorem walkDiskLast (v : Value) (ops : List OpD) (i j : Int) (w : World) (hr : ReadsOps w v ops) (_ : (Lit.int .i64 i).wf = true) (_ : (Lit.int .i64 j).wf = true) :
    Calls Try.prog 7 #[v, .int .i64 i, .int .i64 j] w fun e w' => e = .returned (.bool true) ∧ Below w.heap.size w w' := by
  have hx1 := sec_eq i 6 (by omega) (by omega)
  have hx2 := sec_eq j 6 (by omega) (by omega)
  have hl1 := secN_lt i 6 (by omega)
  have hl2 := secN_lt j 6 (by omega)
  generalize secN i 6 = p at *
  generalize secN j 6 = q at *
  have HX1 := Lib.hid hx1
  have HX2 := Lib.hid hx2
  clear hx1 hx2
  cases hlong : isLong ops with
  | true =>
    have HL := Lib.hid (fun W (hb : Below w.heap.size w W) => long_any v ops W (hr.keep hb) true hlong)
    clear hr hlong
    go_enter Try.func7, Try.ntmps7
    go_wp2_with fail
    refine (Live.make 6 (by omega) (by omega) (Below.refl w.heap.size w)).mono ?_
    rintro e w1 ⟨g, F, rfl, L1⟩
    go_wp2_with fail
    refine (awake_any _).mono ?_
    rintro e w2 ⟨rfl, hb2⟩
    have L2 := L1.more hb2
    go_wp2_with fail
    refine (HL.out _ L2.below).mono ?_
    rintro e w3 ⟨rfl, hb3⟩
    have L3 := L2.more hb3
    go_wp2_with fail
    refine (awake_any _).mono ?_
    rintro e w4 ⟨rfl, hb4⟩
    have HB := Lib.hid (L3.more hb4).below
    clear L1 L2 L3 hb2 hb3 hb4
    go_wp2
    go_ret
    exact ⟨rfl, HB.out⟩
  | false =>
    have HL := Lib.hid (fun W (hb : Below w.heap.size w W) => long_any v ops W (hr.keep hb) false hlong)
    obtain ⟨ad, cap, hv, hcap, hcm, hops⟩ := hr
    subst hv
    have HOPS := Lib.hid hops
    have hl : ops.length ≤ 9223372036854775807 := by unfold maxLen at hcm; omega
    have hl300 := isLong_le hlong
    clear hops hlong
    go_enter Try.func7, Try.ntmps7
    go_wp2_with fail
    refine (Live.make 6 (by omega) (by omega) (Below.refl w.heap.size w)).mono ?_
    rintro e w1 ⟨g, F, rfl, L1⟩
    go_wp2_with fail
    rw [HX1.out, HX2.out]
    refine (awake_any _).mono ?_
    rintro e w2 ⟨rfl, hb2⟩
    have L2 := L1.more hb2
    go_wp2_with fail
    refine (HL.out _ L2.below).mono ?_
    rintro e w3 ⟨rfl, hb3⟩
    have L3 := L2.more hb3
    have hF := Plain.start 6
    generalize Dk.new 6 = D at *
    have HF := Lib.hid hF
    clear L1 L2 hb2 hb3 hF
    go_wp2_with fail
    go_loopw [46] (fun vj wr => ∃ (j : Nat) (F : Foot) (D : Dk), j ≤ ops.length ∧ vj = .int .i64 j ∧ Live w wr F g D ∧ Plain D 6 j) (fun vj _ => ops.length - (intOf vj).toNat)
    case atStart => exact ⟨0, F, D, Nat.zero_le _, rfl, L3, HF.out⟩
    case round =>
      obtain ⟨j, F5, D5, hj, rfl, L5, hF5⟩ := hrel
      clear HF L3
      by_cases hlt : j < ops.length
      · obtain ⟨blk, off, ha, ho⟩ := HOPS.out j _ (List.getElem?_eq_getElem hlt)
        subst ha
        have hlb := World.block_lt_of_cell? w _ ho.c0
        have c := fun x => L5.below.cell (p := ⟨blk, x, none⟩) hlb
        have c0 := (c _).trans ho.c0
        have c1 := (c _).trans ho.c1
        have c2 := (c _).trans ho.c2
        have c3 := (c _).trans ho.c3
        have c4 := (c _).trans ho.c4
        obtain ⟨a', cap', hpv, _⟩ := ho.picks
        rw [byteVs_len] at hpv
        rw [hpv] at c4
        clear c ho hpv
        generalize ops[j].picks.length = np at *
        generalize ops[j].kind = kd at *
        generalize ops[j].i = oi at *
        generalize ops[j].n = on at *
        generalize ops[j].s = os at *
        have hwl : D5.waits.length < 16777216 := by have := hF5.waits; omega
        have HF5 := Lib.hid hF5
        have L5x := L5.more ((Below.refl _ _).alloc (Nat.le_refl _) (.cells #[.int .i64 kd, .int .i64 oi, .int .i64 on, .int .u8 (os.toNat : Int), .slice a' np cap'] 33))
        have bx := Blk.new wr 33 #[.int .i64 kd, .int .i64 oi, .int .i64 on, .int .u8 (os.toNat : Int), .slice a' np cap']
        clear hF5 L5
        by_cases hk2 : kd = 2
        · subst hk2
          obtain ⟨f1, f2⟩ := HF5.out.sync
          have HS := Lib.hid f1
          have H := Lib.hid (L5x.sync 0 f2 rfl)
          clear f1 f2 L5x bx
          go_wp2_with fail
          refine H.out.mono ?_
          rintro e w6 ⟨rfl, F6, L6⟩
          go_wp2
          go_roundw
          case rel => exact ⟨j + 1, F6, _, by omega, by go_num, L6, HS.out⟩
          case measure => simp [intOf]; omega
        · have hx := sec_eq oi 6 (by omega) (by omega)
          have hxl := secN_lt oi 6 (by omega)
          generalize secN oi 6 = x at *
          have hkd : (kd == 2) = false := by rw [beq_eq_false_iff_ne]; exact hk2
          have HX := Lib.hid hx
          have LX := Lib.hid L5x
          have BX := Lib.hid bx
          have HWL := Lib.hid hwl
          obtain ⟨f1, f2⟩ := HF5.out.write x (fullS os) ⟨by omega, by omega⟩ (fullS_size os)
          have HS := Lib.hid f1
          have HE := Lib.hid f2
          clear f1 f2 L5x bx hx hwl hk2
          go_wp2_with fail
          refine' wp_region_conf 9 [.is _, .is _, .is _, .is _, .is _, .is _, .is _, .is _, .is _] (by kernel_rfl) (by kernel_rfl) (by kernel_rfl) (by kernel_rfl) rfl ?main
          case main =>
            iterate 9
              refine obs_is (fun w5 hE2 _ => ?_) ?_
              · have bx := BX.out.drew.keep hE2 BX.out.lt
                have b1 := bx.cell 1
                have b3 := bx.cell 3
                clear bx
                go_wp2_with (go_at_call 13; refine (full_any os _).mono ?_; rintro e w6 ⟨rfl, hb6⟩)
                first | exact post_is hb6 | exact post_is (Below.refl _ _)
              simp only [Act.put, List.setIfInBounds_toArray, List.set_cons_zero, List.set_cons_succ]
            refine obs_end fun w5 hE3 _ => ?_
            have L6 := LX.out.drew.more hE3
            have H := Lib.hid (L6.write x (fullS os) HWL.out 0 HE.out rfl)
            clear L6
            change wpList _ _ _ _ _ _
            go_wp2_with fail
            rw [HX.out]
            refine H.out.mono ?_
            rintro e w6 ⟨rfl, F6, L6⟩
            go_wp2
            go_roundw
            case rel => exact ⟨j + 1, F6, _, by omega, by go_num, L6, HS.out⟩
            case measure => simp [intOf]; omega
      · obtain rfl : j = ops.length := by omega
        have hp : (0 : Int) ≤ (p : Int) ∧ (p : Int) < (6 : Nat) := ⟨by omega, by omega⟩
        have hq : (0 : Int) ≤ (q : Int) ∧ (q : Int) < (6 : Nat) := ⟨by omega, by omega⟩
        obtain ⟨f1, f2⟩ := hF5.write p (fullS 119) hp (fullS_size 119)
        have R1 := Lib.hid (hF5.reach q hq)
        have R2 := Lib.hid (f1.reach p hp)
        have R3 := Lib.hid (f1.reach q hq)
        have V2 : Hid ((D5.write p (fullS 119)).read p = fullS 119) := by show _ = _; rw [f1.read p hp]; exact hF5.at_same p _ hp (fullS_size 119)
        have V3 : Hid (q ≠ p → (D5.write p (fullS 119)).read q = D5.read q) := fun hne => by
          rw [f1.read q hq, hF5.read q hq]; exact hF5.at_other p q _ hp (fullS_size 119) (by omega)
        have HE := Lib.hid f2
        have HW := Lib.hid (show D5.waits.length < 16777216 from by have := hF5.waits; omega)
        clear f1 f2 hp hq hF5
        go_wp2_with fail
        refine (L5.read q 0 R1.out _ rfl).mono ?_
        rintro e w6 ⟨rfl, L6⟩
        generalize D5.read q = z at *
        go_wp2_with fail
        refine (full_any 119 _).mono ?_
        rintro e w7 ⟨rfl, hb7⟩
        go_wp2_with fail
        refine ((L6.more hb7).write p (fullS 119) HW.out 0 HE.out rfl).mono ?_
        rintro e w8 ⟨rfl, F8, L8⟩
        go_wp2_with fail
        refine (L8.read p 0 R2.out (fullS 119) V2.out).mono ?_
        rintro e w9 ⟨rfl, L9⟩
        by_cases hpq : p = q
        · subst hpq
          go_wp2_with fail
          refine (L9.read p 0 R2.out (fullS 119) V2.out).mono ?_
          rintro e w10 ⟨rfl, L10⟩
          go_wp2_with fail
          refine (full_any 119 _).mono ?_
          rintro e w11 ⟨rfl, hb11⟩
          have HB := Lib.hid (L10.more hb11).below
          clear L5 L6 L8 L9 L10 hb7 hb11
          go_wp2
          go_ret
          exact ⟨rfl, HB.out⟩
        · have hne : ((p : Int) == (q : Int)) = false := by rw [beq_eq_false_iff_ne]; omega
          go_wp2_with fail
          refine (L9.read q 0 R3.out z (V3.out (fun e => hpq e.symm))).mono ?_
          rintro e w10 ⟨rfl, L10⟩
          clear hpq
          go_wp2_with fail
          refine (full_any 119 _).mono ?_
          rintro e w11 ⟨rfl, hb11⟩
          have HB := Lib.hid (L10.more hb11).below
          clear L5 L6 L8 L9 L10 hb7 hb11
          go_wp2
          go_ret
          exact ⟨rfl, HB.out⟩
end Go.Proofs.Ytapkelnpkonmpaa
