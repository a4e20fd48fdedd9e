/- The statement DiskPlays, walked. -/
import Derived.Test.YtapkelnpkonmpaaRefG
import Derived.Test.YtapkelnpkonmpaaDiskT
import Derived.BigQuiet
import Derived.Deep.DeepCutAuto
import Derived.Deep.CutBlock
import Derived.Deep.RegionHeld3
namespace Go.Proofs.Ytapkelnpkonmpaa
open Go.RowKit Go.WideShapes

theorem own_reads {w : World} {base n : Nat} {e : TypeId} {v : Value} {xs : List Value} (h : w.ownsRow base e 1 v n xs) : Reads w v xs := by
  have hl := h.1
  rcases own_any h with ⟨rfl, _, rfl⟩ | ⟨g, cap, rfl, h1, _⟩
  · exact Reads.empty _ _ _
  · have e : xs.length = n := by simpa using hl
    subst e
    exact Reads.mk' h1 fun j x hj => by
      have hlt : j < xs.length := by
        rcases Nat.lt_or_ge j xs.length with k | k
        · exact k
        · rw [List.getElem?_eq_none k] at hj; cases hj
      rw [Nat.zero_add]
      exact (h.cellAt j (by omega)).trans hj
theorem reads_news {w : World} {ad : Addr} {m c : Nat} {vs : List Value} (h : Reads w (.slice (some ad) m c) vs) : ∀ j u, vs[j]? = some u → w.cell? (ad.add j) = some u := by
  obtain ⟨a, cap, he, _, hx⟩ := h
  simp only [Value.slice.injEq] at he
  obtain ⟨rfl, _, _⟩ := he
  intro j u hj
  obtain ⟨b, off, e, hc⟩ := hx j u hj
  simp only [Option.some.injEq] at e
  subst e
  rw [add_plain]
  exact hc
theorem byteVs_one (l : List UInt8) : ∀ u ∈ byteVs l, u.oneCell' = true := by
  intro u hu
  obtain ⟨b, _, rfl⟩ := List.mem_map.1 hu
  rfl
theorem info_byteH : (Try.prog.info? 5).map (fun i => (i.zero, i.size, i.bytes)) = some (some (.int .u8 0), 1, 1) := by kernel_rfl
theorem run_append_bare {w : World} (base : Nat) (t ty e : TypeId) (i : TypeInfo) (size : Nat) (ht : Try.prog.underlying t = some (.slice e)) (hi : Try.prog.info? e = some i)
    (v : Value) (n : Nat) (xs : List Value) (hown : w.ownsRow base e size v n xs) (c : Nat) : (Builtin.append_ #[t, t] ty #[v, .slice none 0 c]).run Try.prog w = .ok v w := by
  rcases hown.2 with ⟨rfl, rfl⟩ | ⟨g, cap, cur, rfl, _, _, hnc, _⟩
  · simp [Builtin.append_, run_underlying ht, sizeOf, typeInfo, hi, Builtin.lenOf, Builtin.firstCells]
  · simp [Builtin.append_, run_underlying ht, sizeOf, typeInfo, hi, Builtin.lenOf, Builtin.firstCells, hnc, storeCells]
theorem append_bare {w : World} {ops : Array Oper} {rest : List Oper} {o : Oper} {a : Act} {Q : Exit → Act → World → Prop} (hgd : o.guard = none) (s x : Operand) (t : TypeId)
    (ho : o.op = .call { callee := .builtin .append, args := #[s, x], argTypes := #[t, t] })
    (base : Nat) (e : TypeId) (i : TypeInfo) (size : Nat) (ht : Try.prog.underlying t = some (.slice e)) (hi : Try.prog.info? e = some i)
    (v : Value) (n : Nat) (xs : List Value) (hs : a.eval s = v) (hown : w.ownsRow base e size v n xs) (c : Nat) (hx : a.eval x = .slice none 0 c)
    (h : wpList Try.prog ops Q rest (a.put o.dst v) w) : wpList Try.prog ops Q (o :: rest) a w := by
  refine wpList_plain hgd fun K hK => ?_
  have hrun := run_append_bare base t o.type e i size ht hi v n xs hown c
  unfold Oper.wp
  simp [execOp, ho, resolve, invoke, builtin, hs, hx, hrun, Result.andThen]
  exact hK _ _ h
def shortS : ByteArray := ⟨#[115, 104, 111, 114, 116]⟩

set_option maxRecDepth 100000 in
set_option maxHeartbeats 4000000 in
theorem plays_no (n : Int) (v : Value) (w : World) (h : n < 1 ∨ 512 < n) :
    Calls Try.prog 3 #[.int .i64 n, v] w fun e w' => e = .returned (.bool true) ∧ Below w.heap.size w w' := by
  have HN := Lib.hid (new_no n w h)
  rcases h with h | h
  · have h1 : decide (1 ≤ n) = false := by simp; omega
    clear h
    go_enter Try.func3, Try.ntmps3
    go_wp2_with fail
    refine HN.out.mono ?_
    rintro e w1 ⟨rfl, rfl⟩
    go_wp2_with fail
    refine (awake_any _).mono ?_
    rintro e w2 ⟨rfl, hb2⟩
    go_wp2
    go_ret
    exact ⟨rfl, hb2⟩
  · have h1 : decide (1 ≤ n) = true := by simp; omega
    have h2 : decide (n ≤ 512) = false := by simp; omega
    clear h
    go_enter Try.func3, Try.ntmps3
    go_wp2_with fail
    refine HN.out.mono ?_
    rintro e w1 ⟨rfl, rfl⟩
    go_wp2_with fail
    refine (awake_any _).mono ?_
    rintro e w2 ⟨rfl, hb2⟩
    go_wp2
    go_ret
    exact ⟨rfl, hb2⟩

set_option maxRecDepth 100000 in
set_option maxHeartbeats 4000000 in
theorem plays_far (n : Nat) (v : Value) (ops : List OpD) (w : World) (hr : ReadsOps w v ops) (h1 : 1 ≤ n) (h2 : n ≤ 512) (h : isLong ops = true ∨ 40 < n) :
    Calls Try.prog 3 #[.int .i64 n, v] w fun e w' => e = .returned (.bool true) ∧ Below w.heap.size w w' := by
  have d1 : decide ((1 : Int) ≤ (n : Int)) = true := by simp; omega
  have d2 : decide ((n : Int) ≤ 512) = true := by simp; omega
  have e1 : 1 ≤ n := h1
  have e2 : n ≤ 512 := h2
  cases hlong : isLong ops with
  | true =>
    have HL1 := Lib.hid (fun W (hb : Below w.heap.size w W) => long_any v ops W (hr.keep hb) true hlong)
    clear hr hlong h
    go_enter Try.func3, Try.ntmps3
    go_wp2_with fail
    refine (Live.make n h1 h2 (Below.refl w.heap.size w)).mono ?_
    rintro e w1 ⟨g, F, rfl, L1⟩
    go_wp2_with fail
    refine (awake_any _).mono ?_
    rintro e w2 ⟨rfl, hb2⟩
    have L2 := L1.more hb2
    go_wp2_with fail
    refine (HL1.out _ L2.below).mono ?_
    rintro e w3 ⟨rfl, hb3⟩
    have HB := Lib.hid (L2.more hb3).below
    clear L1 L2 hb2 hb3
    go_wp2
    go_ret
    exact ⟨rfl, HB.out⟩
  | false =>
    have HL1 := Lib.hid (fun W (hb : Below w.heap.size w W) => long_any v ops W (hr.keep hb) false hlong)
    have h40 : 40 < n := by rcases h with h | h; rw [hlong] at h; cases h; exact h
    have d3 : decide ((40 : Int) < (n : Int)) = true := by simp; omega
    clear hr hlong h
    go_enter Try.func3, Try.ntmps3
    go_wp2_with fail
    refine (Live.make n h1 h2 (Below.refl w.heap.size w)).mono ?_
    rintro e w1 ⟨g, F, rfl, L1⟩
    go_wp2_with fail
    refine (awake_any _).mono ?_
    rintro e w2 ⟨rfl, hb2⟩
    have L2 := L1.more hb2
    go_wp2_with fail
    refine (HL1.out _ L2.below).mono ?_
    rintro e w3 ⟨rfl, hb3⟩
    have HB := Lib.hid (L2.more hb3).below
    clear L1 L2 hb2 hb3
    go_wp2
    go_ret
    exact ⟨rfl, HB.out⟩

set_option maxRecDepth 100000 in
set_option maxHeartbeats 16000000 in
theorem plays_near (n : Nat) (v : Value) (ops : List OpD) (w : World) (hr : ReadsOps w v ops) (h1 : 1 ≤ n) (h2 : n ≤ 40) (hlong : isLong ops = false) :
    Calls Try.prog 3 #[.int .i64 n, v] w fun e w' => e = .returned (.bool true) ∧ Below w.heap.size w w' := by
  have h3 : n ≤ 512 := by omega
  have hpk := isLong_picks hlong
  have HPK := Lib.hid hpk
  have HL1 := Lib.hid (fun W (hb : Below w.heap.size w W) => long_any v ops W (hr.keep hb) false hlong)
  have d1 : decide ((1 : Int) ≤ (n : Int)) = true := by simp; omega
  have d2 : decide ((n : Int) ≤ 512) = true := by simp; omega
  have d3 : decide ((40 : Int) < (n : Int)) = false := by simp; omega
  obtain ⟨ad, cap, hv, hcap, hcm, hops⟩ := hr
  subst hv
  have HOPS := Lib.hid hops
  have hl : ops.length ≤ 9223372036854775807 := by unfold maxLen at hcm; omega
  have hl300 := isLong_le hlong
  clear hops hlong hpk
  go_enter Try.func3, Try.ntmps3
  go_wp2_with fail
  refine (Live.make n h1 h3 (Below.refl w.heap.size w)).mono ?_
  rintro e w1 ⟨g, F, rfl, L1⟩
  go_wp2_with fail
  refine (awake_any _).mono ?_
  rintro e w2 ⟨rfl, hb2⟩
  have L2 := L1.more hb2
  go_wp2_with fail
  refine (HL1.out _ L2.below).mono ?_
  rintro e w3 ⟨rfl, hb3⟩
  have L3 := L2.more hb3
  go_wp2_with fail
  refine (refNew_any n _ h2).mono ?_
  rintro e w4 ⟨g2, F2, rfl, hr2, hF2, hb4⟩
  have P4 : Pair w w4 F g (Dk.new n) F2 g2 (Dk.new n) := ⟨(L3.more hb4).below, (L3.more hb4).disk, hr2, L3.new, fun b hb => Nat.le_trans L3.below.size (hF2 b hb), fun b hb hb2 => by have := L3.disk.lt b hb; have := hF2 b hb2; omega, (L3.disk).1⟩
  have hfit : Fit (Dk.new n) n 0 := ⟨by simp [Dk.new], Nat.le_refl _⟩
  generalize Dk.new n = D at *
  have HF := Lib.hid hfit
  clear L1 L2 L3 hb2 hb3 hb4 hr2 hF2 hfit HL1
  go_wp2_with fail
  go_loopw [5, 56] (fun vd vj wr => ∃ (j : Nat) (F : Foot) (g : Nat) (F2 : Foot) (D : Dk), j ≤ ops.length ∧ vj = .int .i64 j ∧ vd = .pointer (some ⟨g, 0, none⟩) ∧ Pair w wr F g D F2 g2 D ∧ Fit D n j) (fun _ vj _ => ops.length - (intOf vj).toNat)
  case atStart => exact ⟨0, F, g, F2, D, Nat.zero_le _, rfl, rfl, P4, HF.out⟩
  case round =>
    obtain ⟨j, F5, g5, F25, D5, hj, rfl, rfl, P5, hF5⟩ := hrel
    clear HF P4
    by_cases hlt : j < ops.length
    · obtain ⟨blk, off, np, cap', ha, pa, c0, c1, c2, c3, c4, hpv⟩ := op_cells HOPS.out P5.below hlt
      obtain ⟨_, _, hae, hop⟩ := HOPS.out j _ (List.getElem?_eq_getElem hlt)
      have hpicks := hop.picks
      have hnwf := hop.n_wf
      rw [hpv] at hpicks
      have hon : ops[j].n < 9223372036854775808 := by
        have h := hnwf
        simp [Lit.wf, IntKind.min, IntKind.max, IntKind.signed, IntKind.bits] at h
        omega
      have hnp : np = ops[j].picks.length := by
        obtain ⟨a3, c3, hv3, _⟩ := id hpicks
        rw [byteVs_len] at hv3
        simp only [Value.slice.injEq] at hv3
        exact hv3.2.1
      subst hnp
      have hp200 := HPK.out j hlt
      clear hop hnwf hpv hae
      subst ha
      generalize ops[j].kind = kd at *
      generalize ops[j].i = oi at *
      generalize ops[j].n = on at *
      generalize ops[j].s = os at *
      generalize ops[j].picks = p at *
      have HPB : Hid (byteVs p ≠ [] → ∀ b, (Value.slice pa p.length cap').ownBlock = some b → b < w.heap.size) := fun hne b hb => by
        cases p with
        | nil => exact absurd rfl hne
        | cons y ys =>
          obtain ⟨a3, cap3, hv3, hc3, hx3⟩ := hpicks
          obtain ⟨blk, off, e, hc⟩ := hx3 0 _ rfl
          subst e
          rw [hv3] at hb
          simp only [Value.ownBlock, Option.some.injEq] at hb
          subst hb
          exact World.block_lt_of_cell? w ⟨blk, off + 0, none⟩ hc
      have HPR : Hid (∀ W, Below w.heap.size w W → Reads W (.slice pa p.length cap') (byteVs p)) := fun W hb => hpicks.keep hb
      have hwl : D5.waits.length < 16777216 := by have := hF5.2; omega
      have HWL := Lib.hid hwl
      have HF5 := Lib.hid hF5
      have T6 := Lib.hid (Trio.make P5 (cs := #[.int .i64 kd, .int .i64 oi, .int .i64 on, .int .u8 (os.toNat : Int), .slice pa p.length cap']))
      have HON := Lib.hid hon
      clear hwl hF5 hpicks P5 hon
      go_wp2_with fail
      refine (full_any os _).mono ?_
      rintro e w7 ⟨rfl, hb7⟩
      have t7 := T6.out.more hb7
      clear T6 hb7 c0 c1 c2 c3 c4
      generalize wr.heap.size = x at *
      have T7 := Lib.hid t7
      have b0 := t7.box.cell 0
      have b3 := t7.box.cell 3
      clear t7
      go_upto_if 65 with fail
      go_cut [10, 56] (fun s10 s56 wx => s56 = .int .i64 j ∧ (∃ s, s10 = .string s) ∧ wx = w7)
      case first =>
        by_cases h255 : os.toNat = 255
        · have e1 : ((os.toNat : Int) == 255) = true := by simp; omega
          go_wp2_with fail
          go_meet
          exact ⟨rfl, ⟨_, rfl⟩, rfl⟩
        · have e1 : ((os.toNat : Int) == 255) = false := by simp; omega
          go_wp2_with fail
          go_meet
          exact ⟨rfl, ⟨_, rfl⟩, rfl⟩
      case rest =>
        obtain ⟨rfl, ⟨s, rfl⟩, rfl⟩ := hcut
        go_upto_block 2 with fail
        go_cut [5, 11, 56] (fun s5 s11 s56 wx => s56 = .int .i64 j ∧ ∃ (F : Foot) (g : Nat) (F2 : Foot) (D : Dk), s5 = .pointer (some ⟨g, 0, none⟩) ∧ Pair w wx F g D F2 g2 D ∧ Fit D n (j + 1))
        case first =>
          by_cases k1 : kd = 1
          · subst k1
            go_upto_region 19 with fail
            have td := T7.out.drew
            have b1 := td.box.cell 1
            go_region_held3 (fun W => W.cell? ⟨x, 1, none⟩ = some (.int .i64 oi)) (assumption) (first
              | (go_at_call 14; refine (td.write1 oi s HWL.out _ rfl rfl).mono ?_; rintro e w8 ⟨rfl, F8, T8⟩; have b8 := T8.box.cell 1)
              | (go_at_call 15; refine (T8.write2 oi s HWL.out _ rfl rfl).mono ?_; rintro e w9 ⟨rfl, F9, T9⟩; have b9 := T9.box.cell 1))
            go_wp2_with fail
            go_meet
            exact ⟨rfl, _, _, _, _, rfl, T9.pair, HF5.out.write oi s⟩
          by_cases k2 : kd = 2
          · subst k2
            go_wp2_with fail
            refine (T7.out.sync1 _ rfl rfl).mono ?_
            rintro e w8 ⟨rfl, F8, T8⟩
            go_wp2_with fail
            refine (T8.sync2 _ rfl rfl).mono ?_
            rintro e w9 ⟨rfl, F9, T9⟩
            go_wp2_with fail
            go_meet
            exact ⟨rfl, _, _, _, _, rfl, T9.pair, HF5.out.sync⟩
          by_cases k3 : kd = 3
          · subst k3
            have b2 := T7.out.box.cell 2
            go_wp2_with fail
            refine (T7.out.arm1 on HON.out rfl).mono ?_
            rintro e w8 ⟨rfl, F8, T8⟩
            have b2' := T8.box.cell 2
            obtain ⟨⟨u8, cf⟩, hfz, T9⟩ := T8.arm2 on HON.out
            have T9' := Lib.hid T9
            clear b2 T9
            go_wp2_with fail
            case _ h =>
              have e9 : (if 0 ≤ on then on else -1) = -1 := if_neg (by omega)
              have T9 := T9'.out
              rw [e9] at T9
              go_meet
              exact ⟨rfl, _, _, _, _, rfl, T9.pair, HF5.out.arm on⟩
            case _ h =>
              have e9 : (if 0 ≤ on then on else -1) = on := by split <;> omega
              have T9 := T9'.out
              rw [e9] at T9
              go_meet
              exact ⟨rfl, _, _, _, _, rfl, T9.pair, HF5.out.arm on⟩
          by_cases k4 : kd = 4
          · subst k4
            obtain ⟨i0, hi0, hz0, hz1, hz2⟩ := info_parts info_byteH
            have t8 := T7.out.more (((Below.refl _ _).alloc (Nat.le_refl _) (.cells #[] 5)))
            have b4 := t8.box.cell 4
            have hpr := HPR.out _ t8.pair.below
            have T8 := Lib.hid t8
            have hz7 := T7.out.pair.below.size
            clear t8
            cases pa with
            | none =>
              have hp0 : p = [] := by
                cases p with
                | nil => rfl
                | cons y ys =>
                  obtain ⟨a3, cap3, hv3, _, hx3⟩ := hpr
                  obtain ⟨_, _, e, _⟩ := hx3 0 _ rfl
                  simp only [Value.slice.injEq] at hv3
                  rw [← hv3.1] at e
                  cases e
              subst hp0
              clear hpr
              go_wp2_with fail
              refine (T8.out.crash1 _ [] (Reads.empty _ _ _) (fun h => absurd rfl h) rfl).mono ?_
              rintro e w9 ⟨rfl, F9, T9⟩
              have b4' := T9.box.cell 4
              have hpr9 := HPR.out _ T9.pair.below
              clear b4
              go_wp2_with fail
              refine (T9.crash2 _ [] hpr9 (fun h => absurd rfl h) rfl).mono ?_
              rintro e w10 ⟨rfl, F10, T10⟩
              clear hpr9
              go_wp2_with fail
              go_meet
              exact ⟨rfl, _, _, _, _, rfl, T10.pair, HF5.out.crash []⟩
            | some ad' =>
              have HN := Lib.hid (reads_news hpr)
              have H1 := Lib.hid (byteVs_one p)
              have HL := Lib.hid (byteVs_len p)
              clear hpr
              go_wp2_with (at_builtin; refine wpList_append_own _ rfl (.tmp 111) (.tmp 113) 31 rfl wc.heap.size 5 i0 (.int .u8 0) 1 1 Try.underlying31 hi0 hz0 hz1 hz2 rfl (by decide) _ _ _ rfl (ownsRow_empty wc _ 1) ad' p.length cap' (byteVs p) rfl (by rw [HL.out]; omega) HN.out H1.out (by simp only [maxLen]; omega) (by omega) (by simp) ?_)
              intro v' w8 hown hgrow _
              have hown : w8.ownsRow wc.heap.size 5 1 v' p.length (byteVs p) := by simpa using hown
              have hb8 : Below wc.heap.size wc w8 := ((Below.refl _ _).alloc (Nat.le_refl _) _).grown hgrow (by simp) (fun k hk => by simp [Value.ownBlock] at hk; omega)
              have T8 := Lib.hid (T7.out.more hb8)
              have hrd := own_reads hown
              have hob := fun b hb => (hown.lt b hb).1
              have HOB := Lib.hid hob
              have HRD := Lib.hid hrd
              clear hown hgrow hb8 hrd hob b4
              go_wp2_with fail
              refine (T8.out.crash1 v' p HRD.out (fun _ b hb hF => by
                have h1 := HOB.out b hb
                have h2 := T7.out.pair.disk.lt b hF
                omega) rfl).mono ?_
              rintro e w9 ⟨rfl, F9, T9⟩
              have b4' := T9.box.cell 4
              have hpr9 := HPR.out _ T9.pair.below
              have HPR9 := Lib.hid hpr9
              clear hpr9
              go_wp2_with fail
              refine (T9.crash2 _ p HPR9.out (fun hne b hb hF => by
                have h1 := HPB.out (fun e => hne (by simpa [byteVs] using e)) b hb
                have h2 := T9.pair.new2 b hF
                omega) rfl).mono ?_
              rintro e w10 ⟨rfl, F10, T10⟩
              go_wp2_with fail
              go_meet
              exact ⟨rfl, _, _, _, _, rfl, T10.pair, HF5.out.crash p⟩
          by_cases k5 : kd = 5
          · subst k5
            go_upto_region 31 with fail
            have td := T7.out.drew
            have b1 := td.box.cell 1
            go_region_held3 (fun W => W.cell? ⟨x, 1, none⟩ = some (.int .i64 oi)) (assumption) (first
              | (go_at_call 21; refine (td.lose1 oi _ rfl rfl).mono ?_; rintro e w8 ⟨rfl, F8, T8⟩; have b8 := T8.box.cell 1)
              | (go_at_call 22; refine (T8.lose2 oi HWL.out _ rfl rfl).mono ?_; rintro e w9 ⟨rfl, F9, T9⟩; have b9 := T9.box.cell 1))
            go_wp2_with fail
            go_meet
            exact ⟨rfl, _, _, _, _, rfl, T9.pair, HF5.out.lose oi⟩
          have hwl8 : D5.waits.length ≤ 100000000 := by have := HWL.out; omega
          have HC := Lib.hid (copy_any T7.out.pair.disk hwl8)
          clear hwl8
          go_wp2_with fail
          refine HC.out.mono ?_
          rintro e w8 ⟨c, Fc, rfl, hc, hFc, hb8⟩
          obtain ⟨C8, T8, ap8⟩ := T7.out.other hc hFc hb8
          have C8' := Lib.hid C8
          have T8' := Lib.hid T8
          have AP8 := Lib.hid ap8
          clear C8 T8 ap8 hc hFc hb8 HC
          go_wp2_with fail
          refine (full_any 7 _).mono ?_
          rintro e w9 ⟨rfl, hb9⟩
          have T9 := T8'.out.more hb9
          have C9 := Lib.hid (C8'.out.more hb9)
          clear hb9
          go_wp2_with fail
          refine (write_any T9.pair.disk 0 (fullS 7) HWL.out).mono ?_
          rintro e w10 ⟨rfl, F10, k10, s10⟩
          have hn10 := s10.from_ T9.pair.new T9.pair.below.size
          have C10 := C9.out.away s10 T9.pair.new AP8.out (fun b h h2 => T9.pair.apart b h2 h) T9.xF
          have ap10 : ∀ b, Fc b → ¬ F10 b := fun b h h2 => (s10.foot b h2).elim (AP8.out b h) (fun g => by have := C9.out.pair.disk.lt b h; omega)
          have ap20 : ∀ b, F25 b → ¬ F10 b := fun b h h2 => (s10.foot b h2).elim (fun g => T9.pair.apart b g h) (fun g => by have := C9.out.pair.ref.lt b h; omega)
          have ax10 : ¬ F10 x := fun h2 => (s10.foot x h2).elim T9.xF (fun g => by have := C9.out.box.lt; omega)
          have C10' := Lib.hid C10
          have AP10 := Lib.hid ap10
          have AP20 := Lib.hid ap20
          have AX10 := Lib.hid ax10
          have HN10 := Lib.hid hn10
          clear C10 ap10 ap20 ax10 hn10 s10 T9 C9
          go_wp2_with fail
          refine (sync_any k10).mono ?_
          rintro e w11 ⟨rfl, k11, s11⟩
          have C11 := Lib.hid (C10'.out.away s11 HN10.out AP10.out AP20.out AX10.out)
          clear k10 k11 s11
          go_wp2_with fail
          go_meet
          exact ⟨rfl, _, _, _, _, rfl, C11.out.pair, HF5.out.mono⟩
        case rest =>
          obtain ⟨rfl, F6, g6, F26, D6, rfl, P6, hF6⟩ := hcut
          have hq1 : ∀ m, Calls Try.prog 24 #[.pointer (some ⟨g6, 0, none⟩)] (wc.drewN m) fun e w' => e = .returned (.bool D6.gone) ∧ w' = wc.drewN m := fun m => (dead_any (w := wc.drewN m) (P6.disk.keep (fun _ _ => rfl) (Nat.le_refl _))).mono fun _ _ h => ⟨h.1, h.2.symm⟩
          have hq2 : ∀ m, Calls Try.prog 25 #[.pointer (some ⟨g6, 0, none⟩)] (wc.drewN m) fun e w' => e = .returned (.int .i64 D6.waits.length) ∧ w' = wc.drewN m := fun m => (waiting_any (w := wc.drewN m) (P6.disk.keep (fun _ _ => rfl) (Nat.le_refl _))).mono fun _ _ h => ⟨h.1, h.2.symm⟩
          have hq3 : ∀ m, Calls Try.prog 26 #[.pointer (some ⟨g6, 0, none⟩)] (wc.drewN m) fun e w' => e = .returned (.int .i64 n) ∧ w' = wc.drewN m := fun m => (size_any (w := wc.drewN m) (P6.disk.keep (fun _ _ => rfl) (Nat.le_refl _))).mono fun _ _ h => ⟨by rw [h.1, hF6.1], h.2.symm⟩
          obtain ⟨vs6, vq6, r6⟩ := id P6.ref
          obtain ⟨rc0, rc1, rc2, rc3⟩ := r6.cells
          have hvq := r6.wait
          obtain ⟨qa, qc, rfl, _⟩ := own_len hvq
          have HQ1 := Lib.hid hq1
          have HQ2 := Lib.hid hq2
          have HQ3 := Lib.hid hq3
          have P6' := Lib.hid P6
          have HF6 := Lib.hid hF6
          clear hq1 hq2 hq3 P6 hF6 r6 hvq rc0 rc3
          go_upto_region 33 with fail
          go_quiet ((first
            | (go_at_call 24; exact Calls.quiet_of_same (HQ1.out _))
            | (go_at_call 25; exact Calls.quiet_of_same (HQ2.out _))
            | (go_at_call 26; exact Calls.quiet_of_same (HQ3.out _))))
          rename_i nq
          have P7 := P6'.out.more (w' := wc.drewN nq) ⟨rfl, rfl, rfl, Nat.le_refl _, fun _ _ => rfl⟩
          generalize wc.drewN nq = W at *
          have P7' := Lib.hid P7
          clear P7 HQ1 HQ2 HQ3 P6' rc1 rc2
          go_wp2_with fail
          go_loopw [12] (fun vi wr => ∃ k : Nat, k ≤ n + 2 ∧ vi = .int .i64 ((k : Int) - 1) ∧ Pair w wr F6 g6 D6 F26 g2 D6) (fun vi _ => (n : Int).toNat + 2 - (intOf vi + 1).toNat)
          case atStart => exact ⟨0, Nat.zero_le _, rfl, P7'.out⟩
          case round =>
            obtain ⟨k, hk, rfl, P8⟩ := hrel
            clear P7'
            by_cases hk2 : k < n + 2
            · have hki : (k : Int) - 1 ≤ n := by omega
              go_wp2_with fail
              refine (read_any P8.disk _).mono ?_
              rintro e w12 ⟨rfl, hb12⟩
              have P9 := P8.more hb12
              clear P8 hb12
              go_wp2_with fail
              refine (refRead_any P9.ok2 P9.ref _).mono ?_
              rintro e w13 ⟨rfl, rfl⟩
              generalize D6.read ((k : Int) - 1) = r at *
              generalize D6.reachE ((k : Int) - 1) = re at *
              go_wp2
              go_roundw
              case rel => exact ⟨k + 1, by omega, by go_num, P9⟩
              case measure => simp [intOf]; omega
            · obtain rfl : k = n + 2 := by omega
              have P9 := Lib.hid P8
              clear P8
              go_wp2
              go_roundw
              case rel => exact ⟨j + 1, _, _, _, _, by omega, by go_num, rfl, P9.out, HF6.out⟩
              case measure => simp [intOf]; omega
    · have HB := Lib.hid P5.below
      clear P5 hF5
      go_wp2
      go_ret
      exact ⟨rfl, HB.out⟩

theorem walkDiskPlays (i : Int) (v : Value) (ops : List OpD) (w : World) (_ : (Lit.int .i64 i).wf = true) (hr : ReadsOps w v ops) :
    Calls Try.prog 3 #[.int .i64 i, v] w fun e w' => e = .returned (.bool true) ∧ Below w.heap.size w w' := by
  by_cases h : i < 1 ∨ 512 < i
  · exact plays_no i v w h
  · obtain ⟨n, rfl⟩ := Int.eq_ofNat_of_zero_le (show 0 ≤ i by omega)
    by_cases hf : isLong ops = true ∨ 40 < n
    · exact plays_far n v ops w hr (by omega) (by omega) hf
    · exact plays_near n v ops w hr (by omega) (by omega) (by cases h : isLong ops with
        | true => exact absurd (.inl h) hf
        | false => rfl)
end Go.Proofs.Ytapkelnpkonmpaa
