/- The statement TableRows, walked. -/
import Derived.Test.YtfbghdkbimnnbaaTbK
import Derived.Test.YtfbghdkbimnnbaaLoadG
namespace Go.Proofs.Ytfbghdkbimnnbaa
open Go.RowKit

set_option maxRecDepth 100000 in
set_option maxHeartbeats 16000000 in
theorem walkTableRows (v : Value) (ops : List Op10) (w : World) (hr : IsOps10 w v ops) :
    Calls Try.prog 7 #[v] w fun e w' => e = .returned (.bool true) ∧ Below w.heap.size w w' := by
  have HV := Lib.hid hr
  obtain ⟨a, cap, rfl, h1, h2, _⟩ := hr
  have hlm : (ops.length : Int) ≤ 9223372036854775807 := by unfold maxLen at h2; omega
  clear h1 h2
  go_enter Try.func7, Try.ntmps7
  go_wp2_with fail
  refine (awake10 _).mono ?_
  rintro e w1 ⟨rfl, hb⟩
  have HB := Lib.hid hb
  clear hb
  by_cases h3 : (300 : Int) < ops.length
  · go_wp2_with fail
    refine (awake10 _).mono ?_
    rintro e w2 ⟨rfl, hb⟩
    have HB2 := Lib.hid (below2 HB.out hb)
    clear hb
    go_wp2
    go_ret
    exact ⟨rfl, HB2.out⟩
  go_wp2_with fail
  refine (LiveT.make HB.out).mono ?_
  rintro e w2 ⟨F0, q, rfl, L0⟩
  go_wp2
  go_loopw [23] (fun i wr => ∃ (k : Nat) (F : Foot) (l : Tb), k ≤ ops.length ∧ i = .int .i64 k ∧ LiveT w wr F q l) (fun i _ => (ops.length - intOf i).toNat)
  case atStart => exact ⟨0, F0, [], Nat.zero_le _, rfl, L0⟩
  case round =>
    obtain ⟨k, F, l, hk, rfl, hL⟩ := hrel
    by_cases hlt : k < ops.length
    · have HL := Lib.hid hL
      have HLT := Lib.hid hlt
      obtain ⟨b, off, cap', hva, _, _, hbw, hel⟩ := HV.out.at_ (by omega)
      cases hva
      obtain ⟨hwf, hc⟩ := hel k hlt
      obtain ⟨c0, c1, c2⟩ := hc.keep hL.below
      generalize ops[k] = o at *
      have HBX := Lib.hid (BoxT.make HL.out o)
      clear hel hc L0 hL hwf HL
      go_upto_region 7 with fail
      change Code.wp _ _ _ _ (wr.alloc (.cells (op10Cells o) 31))
      generalize wr.alloc (.cells (op10Cells o) 31) = w3 at *
      generalize wr.heap.size = x at *
      clear c0 c1 c2
      obtain ⟨e0, e1, e2⟩ := HBX.out.cells
      go_upto_block 2 with fail
      go_cut [23] from 23 to 104 (fun s23 wx => s23 = .int .i64 k ∧ ∃ (F : Foot) (l : Tb), LiveT w wx F q l)
      case first =>
        by_cases k1 : o.kind = 1
        · have k1' : (o.kind == 1) = true := by simpa using k1
          clear k1
          go_wp2_with fail
          refine (HBX.out.call (HBX.out.live.begin o.txn)).mono ?_
          rintro e w4 ⟨F4, rfl, T4⟩
          have HT4 := Lib.hid T4
          clear T4 HBX e0 e1 e2
          go_wp2
          go_meet
          exact ⟨rfl, F4, _, HT4.out.live⟩
        have k1' : (o.kind == 1) = false := by simpa using k1
        clear k1
        by_cases k2 : o.kind = 2
        · have k2' : (o.kind == 2) = true := by simpa using k2
          clear k2
          go_wp2_with fail
          refine (HBX.out.call (HBX.out.live.log o.txn o.n)).mono ?_
          rintro e w4 ⟨F4, rfl, T4⟩
          have HT4 := Lib.hid T4
          clear T4 HBX e0 e1 e2
          go_wp2
          go_meet
          exact ⟨rfl, F4, _, HT4.out.live⟩
        have k2' : (o.kind == 2) = false := by simpa using k2
        clear k2
        by_cases k3 : o.kind = 6
        · have k3' : (o.kind == 6) = true := by simpa using k3
          clear k3
          go_wp2_with fail
          refine (HBX.out.call (HBX.out.live.end_ o.txn)).mono ?_
          rintro e w4 ⟨F4, rfl, T4⟩
          have HT4 := Lib.hid T4
          clear T4 HBX e0 e1 e2
          go_wp2
          go_meet
          exact ⟨rfl, F4, _, HT4.out.live⟩
        have k3' : (o.kind == 6) = false := by simpa using k3
        clear k3
        clear e1 e2
        go_wp2
        go_meet
        exact ⟨rfl, F, l, HBX.out.live⟩
      obtain ⟨rfl, F1, l1, hT1⟩ := hcut
      have HT1 := Lib.hid hT1
      have hok := hT1.tab.1
      have HL4 := Lib.hid (rows_len hok)
      have HRI := Lib.hid (rows_rise hok)
      have HRM : Hid (∀ p ∈ l1.rows, ∃ y, l1.at_ p.1 = some y ∧ p = (y.txn, y.first, y.last) ∧ y.first ≤ y.last ∧ 1 ≤ y.last) := fun p hp => by
        rw [rows_eq] at hp
        obtain ⟨y, hy, rfl⟩ := List.mem_map.1 hp
        obtain ⟨hy, hpos⟩ := List.mem_filter.1 hy
        have := hok.order y hy
        simp at hpos
        exact ⟨y, Tb.at_mem hok.rise hy, rfl, this.2.1, by omega⟩
      clear hT1 hok HBX e0 e1 e2
      go_wp2_with fail
      refine HT1.out.rows.mono ?_
      rintro e w4 ⟨ra, rc, rfl, R4, L4, -⟩
      have HL5 := Lib.hid L4
      have HR5 := Lib.hid R4
      have hn4 : (l1.rows.length : Int) ≤ 4 := by have := HL4.out; omega
      clear R4 L4 HT1
      go_wp2
      go_loopw [53] (fun i wr => ∃ j : Nat, j ≤ l1.rows.length ∧ i = .int .i64 j ∧ LiveT w wr F1 q l1 ∧ RowsAt wr ra rc l1.rows) (fun i _ => (l1.rows.length - intOf i).toNat)
      case atStart => exact ⟨0, Nat.zero_le _, rfl, HL5.out, HR5.out⟩
      case round =>
        obtain ⟨j, hj, rfl, hLj, hRj⟩ := hrel
        by_cases hjl : j < l1.rows.length
        · have hv : l1.rows[j]? = some l1.rows[j] := List.getElem?_eq_getElem hjl
          obtain ⟨y, hy, hpy, hfl, hl1⟩ := HRM.out _ (List.getElem_mem hjl)
          obtain ⟨g, off2, hra, x0, x1, x2⟩ := hRj.2 j _ hv
          have hrc := hRj.1
          have HPREV : Hid (∀ (i : Nat) (hi : i + 1 = j), ∃ p : Int × Int × Int, wr.cell? ⟨g, off2 + i * 3, none⟩ = some (.int .i64 p.1) ∧ p.1 < l1.rows[j].1) := fun i hi => by
            have hil : i < l1.rows.length := by omega
            obtain ⟨g', o', e, z0, _⟩ := hRj.2 i _ (List.getElem?_eq_getElem hil)
            rw [hra] at e
            cases e
            exact ⟨_, z0, List.pairwise_iff_getElem.1 HRI.out i j hil hjl (by omega)⟩
          have HLJ := Lib.hid hLj
          have HRJ := Lib.hid hRj
          have HJL := Lib.hid hjl
          have hji : (j : Int) < l1.rows.length := by omega
          rw [hpy] at x0 x1 x2 HPREV hy
          simp only at hy
          clear hv hLj hRj hpy HR5 HL5
          subst hra
          obtain ⟨t0, b1, b2, lf, mm⟩ := y
          simp only at *
          go_upto_region 18 with fail
          change Code.wp _ _ _ _ (wr.alloc (.cells #[.int .i64 t0, .int .i64 b1, .int .i64 b2] 46))
          have hb6 := (Below.refl wr.heap.size wr).alloc (Nat.le_refl _) (.cells #[.int .i64 t0, .int .i64 b1, .int .i64 b2] 46)
          have X8 := Blk.new wr 46 #[.int .i64 t0, .int .i64 b1, .int .i64 b2]
          have HL6 := Lib.hid (HLJ.out.more hb6)
          have HR6 := Lib.hid (HRJ.out.below hb6)
          have HP6 : Hid (∀ (i : Nat) (hi : i + 1 = j), ∃ p : Int × Int × Int, (wr.alloc (.cells #[.int .i64 t0, .int .i64 b1, .int .i64 b2] 46)).cell? ⟨g, off2 + i * 3, none⟩ = some (.int .i64 p.1) ∧ p.1 < t0) := fun i hi => by
            obtain ⟨p, z, h⟩ := HPREV.out i hi
            exact ⟨p, (hb6.cell (p := ⟨g, off2 + i * 3, none⟩) (World.block_lt_of_cell? wr _ z)).trans z, h⟩
          clear hb6 HPREV HLJ HRJ x0 x1 x2
          generalize wr.alloc (.cells #[.int .i64 t0, .int .i64 b1, .int .i64 b2] 46) = w6 at *
          generalize wr.heap.size = x8 at *
          have d0 := X8.cell 0
          simp at d0
          have KR := Lib.hid (tbRow_some HL6.out.tab t0 hy)
          have HX8 := Lib.hid X8
          clear X8
          go_wp2_with fail
          refine KR.out.mono ?_
          rintro e w7 ⟨rfl, hb7⟩
          have HX7 := Lib.hid (HX8.out.keep hb7 HX8.out.lt)
          have HL7 := Lib.hid (HL6.out.more hb7)
          have HR7 := Lib.hid (HR6.out.below hb7)
          have HP7 : Hid (∀ (i : Nat) (hi : i + 1 = j), ∃ p : Int × Int × Int, w7.cell? ⟨g, off2 + i * 3, none⟩ = some (.int .i64 p.1) ∧ p.1 < t0) := fun i hi => by
            obtain ⟨p, z, h⟩ := HP6.out i hi
            exact ⟨p, (hb7.cell (p := ⟨g, off2 + i * 3, none⟩) (World.block_lt_of_cell? w6 _ z)).trans z, h⟩
          clear hb7 d0 KR HX8 HL6 HR6 HP6
          go_upto_region 19 with fail
          change Code.wp _ _ _ _ (w7.alloc (.cells #[.int .i64 t0, .int .i64 b1, .int .i64 b2] 46))
          have hb8 := (Below.refl w7.heap.size w7).alloc (Nat.le_refl _) (.cells #[.int .i64 t0, .int .i64 b1, .int .i64 b2] 46)
          have X9 := Blk.new w7 46 #[.int .i64 t0, .int .i64 b1, .int .i64 b2]
          have X8 := HX7.out.keep hb8 HX7.out.lt
          have HL8 := Lib.hid (HL7.out.more hb8)
          have HR8 := Lib.hid (HR7.out.below hb8)
          have HP8 : Hid (∀ (i : Nat) (hi : i + 1 = j), ∃ p : Int × Int × Int, (w7.alloc (.cells #[.int .i64 t0, .int .i64 b1, .int .i64 b2] 46)).cell? ⟨g, off2 + i * 3, none⟩ = some (.int .i64 p.1) ∧ p.1 < t0) := fun i hi => by
            obtain ⟨p, z, h⟩ := HP7.out i hi
            exact ⟨p, (hb8.cell (p := ⟨g, off2 + i * 3, none⟩) (World.block_lt_of_cell? w7 _ z)).trans z, h⟩
          clear hb8 HP7 HL7 HR7 HX7 hy
          generalize w7.alloc (.cells #[.int .i64 t0, .int .i64 b1, .int .i64 b2] 46) = w8 at *
          generalize w7.heap.size = x9 at *
          have a0 := X8.cell 0
          have a1 := X8.cell 1
          have a2 := X8.cell 2
          have y0 := X9.cell 0
          have y1 := X9.cell 1
          have y2 := X9.cell 2
          simp at a0 a1 a2 y0 y1 y2
          have hne := fun w => row_ne t0 b1 b2 t0 b1 b2 w
          simp only [BEq.rfl, Bool.and_self, Bool.not_true] at hne
          have n1 : decide (b2 < b1) = false := decide_eq_false (by omega)
          have n2 : decide (b2 < 1) = false := decide_eq_false (by omega)
          clear HRM HRI HB HV HL4 hfl hl1 X8 X9 hlm hbw hk hlt
          cases j with
          | zero =>
            go_quiet (fail)
            go_wp2
            exact ⟨⟨1, HJL.out, rfl, HL8.out.more (belowN (Below.refl _ _) _), HR8.out.below (belowN (Below.refl _ _) _)⟩, by simp [intOf]; have := HJL.out; omega⟩
          | succ i =>
            obtain ⟨p, z, hp⟩ := HP8.out i rfl
            have n3 : decide (t0 ≤ p.1) = false := decide_eq_false (by omega)
            have hi4 : (i : Int) + 1 ≤ 4 := by omega
            have n4 : decide ((0 : Int) < (i : Int) + 1) = true := decide_eq_true (by omega)
            have n5 : IntKind.i64.wrap ((i : Int) + 1 - 1) = (i : Int) := by rw [IntWalk.i64_in _ (by omega)]; omega
            have n6 : (i : Int) < l1.rows.length := by omega
            have n7 : ((i + 1 : Nat) : Int) = (i : Int) + 1 := by omega
            rw [n7]
            clear n7
            go_quiet (fail)
            go_wp2
            exact ⟨⟨i + 1 + 1, HJL.out, by first | rfl | go_num, HL8.out.more (belowN (Below.refl _ _) _), HR8.out.below (belowN (Below.refl _ _) _)⟩, by simp [intOf]; have := HJL.out; omega⟩
        · obtain rfl : j = l1.rows.length := by omega
          have HLJ := Lib.hid hLj
          clear hLj hRj
          go_wp2
          exact ⟨⟨k + 1, F1, l1, HLT.out, by go_num, HLJ.out⟩, by simp [intOf]; have := HLT.out; omega⟩
    · obtain rfl : k = ops.length := by omega
      have HL := Lib.hid hL.below
      clear hL L0
      go_wp2
      go_ret
      exact ⟨rfl, HL.out⟩
end Go.Proofs.Ytfbghdkbimnnbaa
