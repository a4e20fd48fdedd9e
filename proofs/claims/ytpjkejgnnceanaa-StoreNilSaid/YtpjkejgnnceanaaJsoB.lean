/- Texts that belong together, joined: SoH, SoI, SoJ, SoL, SoN. -/
import Derived.Test.YtpjkejgnnceanaaJsoA
import Derived.Test.YtpjkejgnnceanaaJpg
import Derived.Test.YtpjkejgnnceanaaJdisk
/- Package store: the write that the journal has whole is ended. -/
namespace Go.Proofs.Ytpjkejgnnceanaa
open Go.RowKit

/-- What opening writes. -/
def Ends (σ : Sg) (n : Nat) (ls : List SA) : Prop := ((∀ j e a b, ¬ Jour σ n j e a b) ∧ ls = []) ∨ ∃ j e a b, Jour σ n j e a b ∧ ls = homeSA j e a b
section
variable {w : World} {F : Foot} {s gd base n t T : Nat} {D : Dk} {σ : Sg}
theorem run_none (h : IsSto w F s gd D base n t) {w' : World} (hb : Below w.heap.size w w') {e : Ending} (he : e = .returned (.tuple #[])) : RunA w F s gd base n t [] D e w' :=
  ⟨F, he, h.below hb, Step.ofBelow hb⟩
set_option maxRecDepth 100000 in
set_option maxHeartbeats 8000000 in
theorem soEnd_none (h : Stands7 w F s gd D base n t T σ) (h2 : σ 2 = none) : Calls Try.prog 36 #[.pointer (some ⟨s, 0, none⟩)] w fun e w' => e = .returned (.tuple #[]) ∧ Below w.heap.size w w' := by
  have HS := Lib.hid (soSlab_any h 2 (by omega))
  unfold sgE sgI sgB at HS
  rw [h2] at HS
  simp only [Option.map_none, Option.getD_none, Option.isSome_none] at HS
  clear h h2
  go_enter Try.func36, Try.ntmps36
  go_wp2_with fail
  refine HS.out.mono ?_
  rintro e w1 ⟨rfl, hb1⟩
  have B1 := Lib.hid (hb1.alloc hb1.size (.cells #[.int .u32 0, .int .u32 0, .string ⟨#[]⟩] 75))
  clear hb1
  go_wp2
  exact bodyPost_ret (results_none rfl _ _ _) rfl ⟨rfl, B1.out⟩
set_option maxRecDepth 100000 in
set_option maxHeartbeats 8000000 in
theorem soEnd_some (h : Stands7 w F s gd D base n t T σ) {j e2 : Nat} (hj : j < n) (h2 : σ 2 = some (e2, oneB j)) (ls : List SA) (hr : D.waits.length + 2 < 16777216)
    (hls : if pairOk σ 0 && (sgE σ 0 == e2) then ls = homeSA j e2 (sgB σ 0) (sgB σ 1) else ls = []) : Calls Try.prog 36 #[.pointer (some ⟨s, 0, none⟩)] w (RunA w F s gd base n t (ls.map (SA.act base)) D) := by
  have h8 := h.sto.n8
  have HS := Lib.hid (soSlab_any h 2 (by omega))
  have HP : Hid (∀ W, Below w.heap.size w W → _) := fun W hW => soPair_any (h.below hW) 0 (by omega)
  have HH : Hid (∀ W, Below w.heap.size w W → _) := fun W hW => soHas_any (h.sto.below hW) j true (by rw [decide_eq_true]; exact ⟨by omega, by omega⟩)
  have HW : Hid ((pairOk σ 0 && (sgE σ 0 == e2)) = true → ∀ W, Below w.heap.size w W → Calls Try.prog 29 #[.pointer (some ⟨s, 0, none⟩), .int .i64 (3 + 2 * j : Nat), .int .u32 (sgE σ 0 : Nat), .agg #[.string (sgB σ 0), .string (sgB σ 1)]] W (RunA W F s gd base n t ((homeSA j e2 (sgB σ 0) (sgB σ 1)).map (SA.act base)) D)) := fun hp W hW => by
    simp only [pairOk, Bool.and_eq_true, beq_iff_eq] at hp
    obtain ⟨⟨⟨p0, p1⟩, p2⟩, p3⟩ := hp
    obtain ⟨⟨x0, y0⟩, q0⟩ := Option.isSome_iff_exists.1 p0
    obtain ⟨⟨x1, y1⟩, q1⟩ := Option.isSome_iff_exists.1 p1
    have t0 := h.tidy.at_ (by omega) q0
    have t1 := h.tidy.at_ (by omega) q1
    have e0 : sgB σ 0 = y0 := by unfold sgB; rw [q0]; rfl
    have e1 : sgB σ 1 = y1 := by unfold sgB; rw [show 0 + 1 = 1 from rfl] at q1; rw [q1]; rfl
    have s0 : y0.size = 112 := by have := t0.2; unfold Body at this; rw [if_neg (by omega)] at this; exact this
    have s1 : y1.size = 112 := by have := t1.2; unfold Body at this; rw [if_neg (by omega)] at this; exact this
    have l0 : x0 < 4294967296 := by have := t0.1; have := h.few; simp only at *; omega
    have ee : sgE σ 0 = x0 := by unfold sgE; rw [q0]; rfl
    rw [e0, e1, ← p3, ee]
    have := soPair_put (h.sto.below hW) (k := 3 + 2 * j) (E := x0) (a := y0) (b := y1) (by omega) (by unfold Body; rw [if_neg (by omega)]; exact s0) (by unfold Body; rw [if_neg (by omega)]; exact s1) l0 h.lies.rep.room hr
    rw [show 3 + 2 * j + 1 = 4 + 2 * j by omega] at this
    exact this
  have HERR : Hid (ls = homeSA j e2 (sgB σ 0) (sgB σ 1) → (acts (ls.map (SA.act base)) D).2 = 0 ∨ (acts (ls.map (SA.act base)) D).2 = 4) := fun he => by
    subst he
    refine acts_err _ D (sa_fits h.lies.rep ?_)
    by_cases hp : (pairOk σ 0 && (sgE σ 0 == e2)) = true
    · simp only [pairOk, Bool.and_eq_true, beq_iff_eq] at hp
      obtain ⟨⟨⟨p0, p1⟩, p2⟩, p3⟩ := hp
      obtain ⟨⟨x0, y0⟩, q0⟩ := Option.isSome_iff_exists.1 p0
      obtain ⟨⟨x1, y1⟩, q1⟩ := Option.isSome_iff_exists.1 p1
      have t0 := h.tidy.at_ (by omega) q0
      have t1 := h.tidy.at_ (by omega) q1
      have e0 : sgB σ 0 = y0 := by unfold sgB; rw [q0]; rfl
      have e1 : sgB σ 1 = y1 := by unfold sgB; rw [show 0 + 1 = 1 from rfl] at q1; rw [q1]; rfl
      have s0 : y0.size = 112 := by have := t0.2; unfold Body at this; rw [if_neg (by omega)] at this; exact this
      have s1 : y1.size = 112 := by have := t1.2; unfold Body at this; rw [if_neg (by omega)] at this; exact this
      rw [e0, e1]
      exact homeSA_fits hj s0 s1
    · rw [if_neg hp] at hls
      cases hls
  have e2' : sgE σ 2 = e2 := by unfold sgE; rw [h2]; rfl
  have b2 : sgB σ 2 = oneB j := by unfold sgB; rw [h2]; rfl
  rw [e2', b2, show (σ 2).isSome = true by rw [h2]; rfl] at HS
  have H := Lib.hid h
  have HL := Lib.hid hls
  have hb1 : ((((oneB j).size : Nat) : Int) != 1) = false := rfl
  have hb0 : 0 < (oneB j).size := Nat.zero_lt_one
  have hbi : (((oneB j)[0]'hb0).toNat : Int) = (j : Int) := by
    show ((UInt8.ofNat j).toNat : Int) = j
    simp
    omega
  have hj8 : (j : Int) < 8 := by omega
  have HM := Lib.hid (fun W => soHomes_any j (by omega) W)
  clear h hls e2' b2 h2 hr h8
  generalize oneB j = ob at *
  generalize sgI σ 2 = I2 at *
  go_enter Try.func36, Try.ntmps36
  go_wp2_with fail
  refine HS.out.mono ?_
  rintro e w1 ⟨rfl, hb1'⟩
  have X1 := Blk.new w1 75 #[.int .u32 e2, .int .u32 I2, .string ob]
  have B1 := hb1'.alloc hb1'.size (.cells #[.int .u32 e2, .int .u32 I2, .string ob] 75)
  go_wp2_with fail
  refine (HP.out _ B1).mono ?_
  rintro e w2 ⟨rfl, hb2⟩
  have B2 := below2 B1 hb2
  have B3 := Lib.hid (B2.alloc B2.size (.cells #[.string (sgB σ 0), .string (sgB σ 1)] 68))
  have X2 := (X1.keep hb2 X1.lt).alloc (.cells #[.string (sgB σ 0), .string (sgB σ 1)] 68)
  have Y2 := Blk.new w2 68 #[.string (sgB σ 0), .string (sgB σ 1)]
  clear hb1' hb2 B1 B2 X1 hb1 hbi HS HP
  go_upto_region 4 with fail
  change Code.wp _ _ _ _ (w2.alloc (.cells #[.string (sgB σ 0), .string (sgB σ 1)] 68))
  generalize w2.alloc (.cells #[.string (sgB σ 0), .string (sgB σ 1)] 68) = w3 at *
  generalize w2.heap.size = y at *
  generalize w1.heap.size = x at *
  generalize sgB σ 0 = ha at *
  generalize sgB σ 1 = hb at *
  generalize sgE σ 0 = E at *
  have c0 := X2.cell 0
  simp at c0
  clear X2
  by_cases hp : pairOk σ 0 = true
  · rw [hp] at HL HW ⊢
    clear hp
    by_cases hE : E = e2
    · subst hE
      have hyes : (true && (E == E)) = true := by simp
      have HL2 := HL.out
      rw [if_pos hyes] at HL2
      subst HL2
      have HW2 := Lib.hid (HW.out hyes)
      clear HW HL hyes
      go_wp2_with fail
      refine (HH.out _ B3.out).mono ?_
      rintro e w4 ⟨rfl, rfl⟩
      go_upto_region 5 with fail
      have hrow : ∀ W, Below w3.heap.size w3 W → Blk W y 68 #[.string ha, .string hb] := fun W hW => Y2.keep hW Y2.lt
      have HROW := Lib.hid hrow
      clear hrow Y2 c0 HH
      refine' wp_region_conf 5 (.is _ :: .is _ :: .is _ :: .is _ :: .is _ :: []) (by kernel_rfl) (by kernel_rfl) (by kernel_rfl) (by kernel_rfl) rfl ?main
      case main =>
        iterate 5
          refine obs_is (fun w6 hE6 _ => ?_) ?_
          · have q1 := HROW.out w6 ((Below.refl _ _).drew.trans hE6)
            go_wp2_with (first
              | (go_at_call 32; refine (HM.out _).mono ?_; rintro e w7 ⟨rfl, rfl⟩)
              | (refine wpList_load_row rfl 68 _ rfl y rfl 68 _ (0, 0) _ q1 Try.underlying68 rfl (by kernel_rfl) ?_))
            exact post_is (Below.refl _ _)
          simp only [Act.put, List.setIfInBounds_toArray, List.set_cons_zero, List.set_cons_succ]
        refine obs_end fun w6 hE6 _ => ?_
        have B6 := Lib.hid (below2 B3.out ((Below.refl _ _).drew.trans hE6))
        clear hE6 HROW B3
        change wpList _ _ _ _ _ _
        go_wp2_with fail
        refine (HW2.out _ B6.out).mono ?_
        rintro e w7 ⟨F', rfl, hi, hs⟩
        have I7 := Lib.hid hi
        have S7 := Lib.hid ((Step.ofBelow (F := F) B6.out).trans hs)
        have e4 := HERR.out (by trivial)
        clear hi hs HW2 B6 HM H HERR
        unfold RunA at *
        generalize acts ((homeSA j E ha hb).map (SA.act base)) D = X4 at *
        obtain ⟨D4, r4⟩ := X4
        rcases e4 with e4 | e4
        · obtain rfl : r4 = 0 := e4
          rw [endOf_zero]
          go_wp2
          go_end0
          exact ⟨F', rfl, I7.out, S7.out⟩
        · obtain rfl : r4 = 4 := e4
          rw [endOf_four]
          go_wp2
          exact ⟨rfl, rfl, F', I7.out, S7.out⟩
    · have HL2 := HL.out
      rw [if_neg (by simp [hE])] at HL2
      subst HL2
      have hne : (E == e2) = false := by simp [hE]
      have hne2 : ¬ (E : Int) = (e2 : Int) := by omega
      clear HW HL hE
      go_wp2
      go_end0
      exact run_none H.out.sto B3.out rfl
  · rw [Bool.not_eq_true] at hp
    rw [hp] at HL ⊢
    have HL2 := HL.out
    rw [if_neg (by simp)] at HL2
    subst HL2
    clear HW HL hp
    go_wp2
    go_end0
    exact run_none H.out.sto B3.out rfl
theorem ends_of (ht : Tidy n T σ) : (σ 2 = none ∧ Ends σ n []) ∨ ∃ j e2, j < n ∧ σ 2 = some (e2, oneB j) ∧ Ends σ n (if pairOk σ 0 && (sgE σ 0 == e2) then homeSA j e2 (sgB σ 0) (sgB σ 1) else []) := by
  cases h2 : σ 2 with
  | none => exact .inl ⟨rfl, .inl ⟨fun j e a b hJ => (by have := hJ.2.2.1; rw [h2] at this; cases this), rfl⟩⟩
  | some x =>
    obtain ⟨e2, b2⟩ := x
    obtain ⟨_, hb⟩ := ht 2 (by omega) e2 b2 h2
    unfold Body at hb
    rw [if_pos rfl] at hb
    obtain ⟨j, hj, rfl⟩ := hb
    refine .inr ⟨j, e2, hj, rfl, ?_⟩
    by_cases hp : (pairOk σ 0 && (sgE σ 0 == e2)) = true
    · rw [if_pos hp]
      simp only [pairOk, Bool.and_eq_true, beq_iff_eq] at hp
      obtain ⟨⟨⟨p0, p1⟩, p2⟩, p3⟩ := hp
      obtain ⟨⟨x0, y0⟩, q0⟩ := Option.isSome_iff_exists.1 p0
      obtain ⟨⟨x1, y1⟩, q1⟩ := Option.isSome_iff_exists.1 p1
      rw [show 0 + 1 = 1 from rfl] at p2 q1
      have e0 : sgB σ 0 = y0 := by unfold sgB; rw [q0]; rfl
      have e1 : sgB σ 1 = y1 := by unfold sgB; rw [q1]; rfl
      have f0 : sgE σ 0 = x0 := by unfold sgE; rw [q0]; rfl
      have f1 : sgE σ 1 = x1 := by unfold sgE; rw [q1]; rfl
      rw [f0] at p3
      rw [f0, f1] at p2
      subst p3 p2
      rw [e0, e1]
      exact .inr ⟨j, x0, y0, y1, ⟨q0, q1, h2, hj⟩, rfl⟩
    · rw [if_neg hp]
      refine .inl ⟨fun j' e a b hJ => hp ?_, rfl⟩
      obtain ⟨h0, h1, h2', _⟩ := hJ
      rw [h2] at h2'
      simp only [Option.some.injEq, Prod.mk.injEq] at h2'
      have f0 : sgE σ 0 = e := by unfold sgE; rw [h0]; rfl
      have f1 : sgE σ 1 = e := by unfold sgE; rw [h1]; rfl
      simp [pairOk, h0, h1, f0, f1, h2'.1]
theorem soEnd_any (h : Stands7 w F s gd D base n t T σ) (hw : D.waits.length + 2 < 16777216) : ∃ ls, Ends σ n ls ∧ Calls Try.prog 36 #[.pointer (some ⟨s, 0, none⟩)] w (RunA w F s gd base n t (ls.map (SA.act base)) D) := by
  rcases ends_of h.tidy with ⟨h2, he⟩ | ⟨j, e2, hj, h2, he⟩
  · exact ⟨[], he, (soEnd_none h h2).mono fun e w' ⟨he, hb⟩ => run_none h.sto hb he⟩
  · refine ⟨_, he, soEnd_some h hj h2 _ hw ?_⟩
    split <;> rfl
end
end Go.Proofs.Ytpjkejgnnceanaa

/- Package store: a disk's store is opened. -/
namespace Go.Proofs.Ytpjkejgnnceanaa
open Go.RowKit

theorem ends_one {σ : Sg} {n : Nat} (hn : n ≤ 8) {l l' : List SA} (h : Ends σ n l) (h' : Ends σ n l') : l = l' := by
  rcases h with ⟨h1, rfl⟩ | ⟨j, e, a, b, hJ, rfl⟩
  · rcases h' with ⟨_, rfl⟩ | ⟨j, e, a, b, hJ, rfl⟩
    · rfl
    · exact absurd hJ (h1 j e a b)
  · rcases h' with ⟨h1, rfl⟩ | ⟨j', e', a', b', hJ', rfl⟩
    · exact absurd hJ (h1 j e a b)
    · obtain ⟨rfl, rfl, rfl, rfl⟩ := jour_one hn hJ hJ'
      rfl
theorem next_step (σ : Sg) (k : Nat) : max (nextTo σ k) (sgE σ k + 1) = nextTo σ (k + 1) := by
  have h1 := nextTo_one σ k
  show _ = match σ k with | none => nextTo σ k | some x => max (nextTo σ k) (x.1 + 1)
  unfold sgE
  cases σ k with
  | none => show max (nextTo σ k) (0 + 1) = nextTo σ k; omega
  | some x => rfl
section
variable {w : World} {F : Foot} {s gd base n t T : Nat} {D : Dk} {σ : Sg}
theorem ends_fits (hl : Lies D base n σ) (ht : Tidy n T σ) {ls : List SA} (he : Ends σ n ls) : ∀ a ∈ ls.map (SA.act base), a.fits D.safe.length := by
  refine sa_fits hl.rep ?_
  rcases he with ⟨_, rfl⟩ | ⟨j, e, a, b, hJ, rfl⟩
  · intro a ha; cases ha
  · obtain ⟨sa, sb, _⟩ := hJ.sizes ht
    exact homeSA_fits hJ.2.2.2 sa sb
theorem soEnd_try (h : Stands7 w F s gd D base n t T σ) (hw : D.waits.length + 2 < 16777216) {ls : List SA} (he : Ends σ n ls) :
    Calls Try.prog 27 #[.func (.func 36) #[.pointer (some ⟨s, 0, none⟩)] #[]] w (TryA w F s gd base n t (ls.map (SA.act base)) D) :=
  soAttempt_any h.sto (ends_fits h.lies h.tidy he) _ _ _ (fun _ => by kernel_rfl) fun W hb => by
    obtain ⟨ls', he', hc⟩ := soEnd_any (h.below hb) hw
    obtain rfl := ends_one h.sto.n8 he he'
    exact hc
set_option maxRecDepth 100000 in
set_option maxHeartbeats 8000000 in
theorem soOpen_dead (h : IsDisk w F gd D) (hl : Lies D base n σ) (ht : Tidy n T σ) (hT : T ≤ 4294967296) (h1 : 1 ≤ n) (h8 : n ≤ 8) (hw : D.waits.length + 2 < 16777216) {ls : List SA} (he : Ends σ n ls) {D' : Dk} (ha : acts (ls.map (SA.act base)) D = (D', 4)) :
    Calls Try.prog 16 #[.pointer (some ⟨gd, 0, none⟩), .int .i64 base, .int .i64 n] w fun e w' => e = .returned (.tuple #[.pointer none, .int .i64 4]) ∧ ∃ F', IsDisk w' F' gd D' ∧ Step F F' w w' := by
  have HN := Lib.hid (soNew_ok h base n h1 h8 hl.rep.room)
  have HD := Lib.hid (fun (W : World) (hW : IsDisk W F gd D) => dead_any hW)
  rw [hl.gone] at HD
  have HT : Hid (∀ (W : World) (s : Nat), IsSto W F s gd D base n 1 → _) := fun W s hW => soEnd_try (t := 1) ⟨hW, hl, ht, hT⟩ hw he
  unfold TryA at HT
  rw [ha] at HT
  clear h hl ht hT h1 h8 hw he ha
  go_enter Try.func16, Try.ntmps16
  go_wp2_with fail
  refine HN.out.mono ?_
  rintro e w1 ⟨s, rfl, hs1, hge, hb1⟩
  have I1 := Lib.hid hs1
  have B1 := Lib.hid hb1
  clear hs1 hge hb1
  go_wp2_with fail
  refine (HD.out _ I1.out.disk).mono ?_
  rintro e w2 ⟨rfl, rfl⟩
  have hmf : ∀ (fn : Fn) (first cap : Array Value) (w : World), (Instr.makeFunc fn first cap).run Try.prog w = .ok (.func fn first cap) w := fun _ _ _ _ => rfl
  go_wp2_with fail
  refine (HT.out _ _ I1.out).mono ?_
  rintro e w3 ⟨F', rfl, hi, hs⟩
  have FIN := Lib.hid hi.disk
  have ST := Lib.hid ((Step.ofBelow (F := F) B1.out).trans hs)
  clear hi hs
  go_wp2
  go_ret2
  exact ⟨rfl, F', FIN.out, ST.out⟩
set_option maxRecDepth 100000 in
set_option maxHeartbeats 8000000 in
theorem soOpen_ok (h : IsDisk w F gd D) (hl : Lies D base n σ) (ht : Tidy n T σ) (hT : T ≤ 4294967296) (h1 : 1 ≤ n) (h8 : n ≤ 8) (hw : D.waits.length + 2 < 16777216) {ls : List SA} (he : Ends σ n ls) {D' : Dk} {σ' : Sg} (ha : acts (ls.map (SA.act base)) D = (D', 0))
    (hl' : Lies D' base n σ') (ht' : Tidy n T σ') :
    Calls Try.prog 16 #[.pointer (some ⟨gd, 0, none⟩), .int .i64 base, .int .i64 n] w fun e w' => ∃ s F', e = .returned (.tuple #[.pointer (some ⟨s, 0, none⟩), .int .i64 0]) ∧ IsSto w' F' s gd D' base n (nextOf σ' n) ∧ w.heap.size ≤ s ∧ Step F F' w w' := by
  have HN := Lib.hid (soNew_ok h base n h1 h8 hl.rep.room)
  have HD := Lib.hid (fun (W : World) (hW : IsDisk W F gd D) => dead_any hW)
  rw [hl.gone] at HD
  have HT : Hid (∀ (W : World) (s : Nat), IsSto W F s gd D base n 1 → _) := fun W s hW => soEnd_try (t := 1) ⟨hW, hl, ht, hT⟩ hw he
  unfold TryA at HT
  rw [ha] at HT
  have HF := Lib.hid h.lt
  have HSC := Lib.hid (fun W => soSectors_any n h8 W)
  have HTX : Hid (∀ (W : World) (F' : Foot) (s t k : Nat), IsSto W F' s gd D' base n t → k < 3 + 2 * n → _) := fun W F' s t k hW hk => soText_any (t := t) ⟨hW, hl', ht', hT⟩ k hk
  have HU : Hid (∀ (W : World) (k : Nat), k < 3 + 2 * n → _) := fun W k hk => unpackSec_any ht' h8 hT hk W
  have HNX := Lib.hid (next_step σ')
  have HT32 : Hid (∀ k, k < 3 + 2 * n → sgE σ' k < 4294967296) := fun k hk => by
    unfold sgE
    cases hx : σ' k with
    | none => show 0 < 4294967296; omega
    | some x => have := (ht'.at_ hk hx).1; show x.1 < 4294967296; omega
  have HTN : Hid (∀ k, k ≤ 3 + 2 * n → nextTo σ' k ≤ 4294967297) := fun k hk => nextTo_le σ' _ (by omega) k fun i hi e b hs => by have := (ht' i (by omega) e b hs).1; omega
  have hn0 : nextTo σ' 0 = 1 := rfl
  have hnn : nextTo σ' (3 + 2 * n) = nextOf σ' n := rfl
  have hn19 : ((3 + 2 * n : Nat) : Int) ≤ 19 := by omega
  rw [← hnn]
  clear h hl ht hT h1 hw he ha hl' ht' hnn h8
  generalize 3 + 2 * n = N at *
  go_enter Try.func16, Try.ntmps16
  go_wp2_with fail
  refine HN.out.mono ?_
  rintro e w1 ⟨s, rfl, hs1, hge, hb1⟩
  have I1 := Lib.hid hs1
  have B1 := Lib.hid hb1
  have GE := Lib.hid hge
  clear hs1 hge hb1
  go_wp2_with fail
  refine (HD.out _ I1.out.disk).mono ?_
  rintro e w2 ⟨rfl, rfl⟩
  have hmf : ∀ (fn : Fn) (first cap : Array Value) (w : World), (Instr.makeFunc fn first cap).run Try.prog w = .ok (.func fn first cap) w := fun _ _ _ _ => rfl
  go_wp2_with fail
  refine (HT.out _ _ I1.out).mono ?_
  rintro e w3 ⟨F', rfl, hi, hs⟩
  have I3 := Lib.hid hi
  have S3 := Lib.hid ((Step.ofBelow (F := F) B1.out).trans hs)
  clear hi hs HT HN HD I1 B1
  go_wp2_with fail
  refine (HSC.out _).mono ?_
  rintro e w4 ⟨rfl, rfl⟩
  go_wp2_with fail
  go_loopw [36] (fun vk wr => ∃ k : Nat, k ≤ N ∧ vk = .int .i64 k ∧ IsSto wr F' s gd D' base n (nextTo σ' k) ∧ Step F F' w wr) (fun vk _ => N - (intOf vk).toNat)
  case atStart => exact ⟨0, Nat.zero_le _, rfl, by rw [hn0]; exact I3.out, S3.out⟩
  case round =>
    obtain ⟨k, hk, rfl, hi, hs⟩ := hrel
    have I5 := Lib.hid hi
    have S5 := Lib.hid hs
    clear hi hs I3 S3
    by_cases hlt : k < N
    · go_wp2_with fail
      refine (HTX.out _ _ _ _ k I5.out hlt).mono ?_
      rintro e w6 ⟨rfl, hb6⟩
      have I6 := Lib.hid (I5.out.below hb6)
      have S6 := Lib.hid (S5.out.more hb6)
      clear hb6 I5 S5
      go_wp2_with fail
      refine (HU.out _ k hlt).mono ?_
      rintro e w7 ⟨rfl, hb7⟩
      have I7 := Lib.hid (I6.out.below hb7)
      have S7 := Lib.hid (S6.out.more hb7)
      clear hb7 I6 S6
      go_upto_region 13 with fail
      have hE := HT32.out k hlt
      have htk := HTN.out k (by omega)
      have hmx := HNX.out k
      have X := Blk.new w7 75 #[.int .u32 (sgE σ' k), .int .u32 (sgI σ' k), .string (sgB σ' k)]
      have ba := (Below.refl w7.heap.size w7).alloc (Nat.le_refl _) (.cells #[.int .u32 (sgE σ' k), .int .u32 (sgI σ' k), .string (sgB σ' k)] 75)
      have I8 := Lib.hid (I7.out.below ba)
      have S8 := Lib.hid (S7.out.more ba)
      change Code.wp _ _ _ _ (w7.alloc (.cells #[.int .u32 (sgE σ' k), .int .u32 (sgI σ' k), .string (sgB σ' k)] 75))
      clear ba I7 S7
      generalize w7.alloc (.cells #[.int .u32 (sgE σ' k), .int .u32 (sgI σ' k), .string (sgB σ' k)] 75) = w8 at *
      generalize w7.heap.size = x at *
      have C : Hid (∀ W, Below w8.heap.size w8 W → W.cell? ⟨s, 3, none⟩ = some (.int .i64 (nextTo σ' k)) ∧ W.cell? ⟨x, 0, none⟩ = some (.int .u32 (sgE σ' k))) := fun W hW => ⟨(I8.out.below hW).cells.2.2.2, (X.keep hW X.lt).cell 0⟩
      have hw1 : IntKind.wrap .i64 ((sgE σ' k : Int) + 1) = (sgE σ' k : Int) + 1 := by rw [IntKind.wrap_i64]; omega
      have hw2 : IntKind.wrap .i64 (sgE σ' k : Int) = (sgE σ' k : Int) := by rw [IntKind.wrap_i64]; omega
      have hmx2 : ((nextTo σ' (k + 1) : Nat) : Int) = if (nextTo σ' k : Int) < (sgE σ' k : Int) + 1 then (sgE σ' k : Int) + 1 else (nextTo σ' k : Int) := by rw [← hmx]; split <;> omega
      clear X hE htk hmx
      have HX2 := Lib.hid hmx2
      clear hmx2
      refine' wp_region_conf 12 (.is _ :: .is _ :: .is _ :: .is _ :: .is _ :: .is _ :: .is _ :: .is _ :: .is _ :: .is (.int .i64 (nextTo σ' (k + 1) : Nat)) :: .is _ :: .is _ :: []) (by kernel_rfl) (by kernel_rfl) (by kernel_rfl) (by kernel_rfl) rfl ?main
      case main =>
        iterate 9
          refine obs_is (fun w6 hE6 _ => ?_) ?_
          · obtain ⟨q0, q1⟩ := C.out w6 ((Below.refl _ _).drew.trans hE6)
            go_wp2
            exact post_is (Below.refl _ _)
          simp only [Act.put, List.setIfInBounds_toArray, List.set_cons_zero, List.set_cons_succ]
        refine obs_is (fun w6 hE6 _ => ?_) ?_
        · by_cases hc : (nextTo σ' k : Int) < (sgE σ' k : Int) + 1
          · rw [show ((nextTo σ' (k + 1) : Nat) : Int) = (sgE σ' k : Int) + 1 by rw [HX2.out, if_pos hc]]
            go_wp2
            exact post_is (Below.refl _ _)
          · rw [show ((nextTo σ' (k + 1) : Nat) : Int) = (nextTo σ' k : Int) by rw [HX2.out, if_neg hc]]
            go_wp2
            exact post_is (Below.refl _ _)
        simp only [Act.put, List.setIfInBounds_toArray, List.set_cons_zero, List.set_cons_succ]
        iterate 2
          refine obs_is (fun w6 hE6 _ => ?_) ?_
          · obtain ⟨q0, q1⟩ := C.out w6 ((Below.refl _ _).drew.trans hE6)
            go_wp2
            exact post_is (Below.refl _ _)
          simp only [Act.put, List.setIfInBounds_toArray, List.set_cons_zero, List.set_cons_succ]
        refine obs_end fun w6 hE6 _ => ?_
        have b6 := (Below.refl w8.heap.size w8).drew.trans hE6
        have I6 := I8.out.below b6
        have S6 := S8.out.more b6
        obtain ⟨-, -, -, c3⟩ := I6.cells
        have z3 := I6.head.frozen 3
        have I9 := Lib.hid (I6.tick (nextTo σ' (k + 1))).1
        have S9 : Hid (Step F F' w (w6.setCell ⟨s, 3, none⟩ (.int .i64 (nextTo σ' (k + 1) : Nat)))) :=
          ⟨S6.os, S6.tape, S6.output, by simpa [World.setCell] using S6.size, fun b hb hF => (heap_setCell_other w6 _ b _ (fun e => by have : b = s := e; have := GE.out; omega)).trans (S6.block b hb hF), S6.foot⟩
        clear hE6 b6 I6 S6 I8 S8 C HX2
        change wpList _ _ _ _ _ _
        go_wp2_with fail
        go_roundw
        case rel => exact ⟨k + 1, by omega, by go_num, I9.out, S9.out⟩
        case measure => simp [intOf]; omega
    · obtain rfl : k = N := by omega
      go_wp2
      go_ret2
      exact ⟨s, F', rfl, I5.out, GE.out, S5.out⟩
end
end Go.Proofs.Ytpjkejgnnceanaa

/- Package store: a page is read; what isn't there. -/
namespace Go.Proofs.Ytpjkejgnnceanaa
open Go.RowKit

theorem zero128_c (w : World) : Calls Try.prog 23 #[] w fun e w' => e = .returned (.string zero128) ∧ Below w.heap.size w w' := zero_any w
section
variable {w : World} {F : Foot} {s gd base n t T : Nat} {D : Dk} {σ : Sg}
set_option maxRecDepth 100000 in
set_option maxHeartbeats 8000000 in
theorem soRead_zero (h : Stands7 w F s gd D base n t T σ) {i : Nat} (hi : i < n) (h3 : σ (3 + 2 * i) = none) (h4 : σ (4 + 2 * i) = none) :
    Calls Try.prog 17 #[.pointer (some ⟨s, 0, none⟩), .int .i64 i] w fun e w' => e = .returned (.tuple #[.agg #[.int .i64 0, .string noughts], .int .i64 0]) ∧ Below w.heap.size w w' := by
  have h8 := h.sto.n8
  have HH : Hid (∀ W, Below w.heap.size w W → _) := fun W hW => soHas_any (h.sto.below hW) i true (by rw [decide_eq_true]; exact ⟨by omega, by omega⟩)
  have HD : Hid (∀ W, Below w.heap.size w W → _) := fun W hW => dead_any (h.sto.below hW).disk
  rw [h.lies.gone] at HD
  have HM := Lib.hid (fun W => soHomes_any i (by omega) W)
  have T3 : Hid (∀ W, Below w.heap.size w W → _) := fun W hW => soText_any (h.below hW) (3 + 2 * i) (by omega)
  have T4 : Hid (∀ W, Below w.heap.size w W → _) := fun W hW => soText_any (h.below hW) (4 + 2 * i) (by omega)
  rw [secV_none h3] at T3
  rw [secV_none h4] at T4
  have hk : ((4 + 2 * i : Nat) : Int) = ((3 + 2 * i : Nat) : Int) + 1 := by omega
  rw [hk] at T4
  have hat : ((3 + 2 * i : Nat) : Int) ≤ 19 := by omega
  have hat0 : (0 : Int) ≤ ((3 + 2 * i : Nat) : Int) := by omega
  have hd0 : Hid (∀ W, Below w.heap.size w W → W.cell? ⟨s, 0, none⟩ = some (.pointer (some ⟨gd, 0, none⟩))) := fun W hW => (h.sto.below hW).cells.1
  clear h h3 h4 hk
  generalize 3 + 2 * i = at_ at *
  have R0 := Blk.new w 34 #[.int .i64 0, .string ⟨#[]⟩]
  have B0 := (Below.refl w.heap.size w).alloc (Nat.le_refl _) (.cells #[.int .i64 0, .string ⟨#[]⟩] 34)
  have HZ := Lib.hid (fun W => zero128_c W)
  have hzz : (zero128.toList == zero128.toList) = true := by simp
  generalize zero128 = z at *
  have c0 := hd0.out _ B0
  go_enter Try.func17, Try.ntmps17
  go_wp2_with fail
  refine (HH.out _ B0).mono ?_
  rintro e w1 ⟨rfl, rfl⟩
  go_wp2_with fail
  refine (HD.out _ B0).mono ?_
  rintro e w1 ⟨rfl, rfl⟩
  go_wp2_with fail
  refine (HM.out _).mono ?_
  rintro e w1 ⟨rfl, rfl⟩
  go_wp2_with fail
  refine (T3.out _ B0).mono ?_
  rintro e w2 ⟨rfl, hb2⟩
  have B2 := below2 B0 hb2
  have R2 := R0.keep hb2 R0.lt
  go_wp2_with fail
  refine (HZ.out _).mono ?_
  rintro e w3 ⟨rfl, hb3⟩
  have B3 := below2 B2 hb3
  have R3 := R2.keep hb3 R2.lt
  go_wp2_with fail
  refine (T4.out _ B3).mono ?_
  rintro e w4 ⟨rfl, hb4⟩
  have B4 := below2 B3 hb4
  have R4 := R3.keep hb4 R3.lt
  go_wp2_with fail
  refine (HZ.out _).mono ?_
  rintro e w5 ⟨rfl, hb5⟩
  have B5 := below2 B4 hb5
  have R5 := R4.keep hb5 R4.lt
  go_wp2_with fail
  refine (pgEmpty_any _).mono ?_
  rintro e w6 ⟨rfl, hb6⟩
  have B6 := below2 B5 hb6
  have R6 := R5.keep hb6 R5.lt
  clear R0 R2 R3 R4 R5 B2 B3 B4 B5 hb2 hb3 hb4 hb5 hb6 T3 T4 HM HD HH
  go_wp2_with (refine wpList_store_row rfl 34 _ _ rfl w.heap.size _ rfl rfl 34 _ R6 (by kernel_rfl) (by simp) (by simp [Value.oneCell']) ?_)
  exact bodyPost_ret (results_row_tmp rfl _ _ w.heap.size 34 _ _ rfl (R6.setRow _) Try.underlying34 rfl (by kernel_rfl)) rfl ⟨rfl, below_setRow B6 (Nat.le_refl _) _⟩
set_option maxRecDepth 100000 in
set_option maxHeartbeats 8000000 in
theorem soRead_some (h : Stands7 w F s gd D base n t T σ) {i e0 : Nat} {p : Pag} (hi : i < n) (hp : p.Right) (h3 : σ (3 + 2 * i) = some (e0, half p.bytes 0)) (h4 : σ (4 + 2 * i) = some (e0, half p.bytes 1)) :
    Calls Try.prog 17 #[.pointer (some ⟨s, 0, none⟩), .int .i64 i] w fun e w' => e = .returned (.tuple #[.agg #[.int .i64 p.1, .string p.2], .int .i64 0]) ∧ Below w.heap.size w w' := by
  have h8 := h.sto.n8
  have HH : Hid (∀ W, Below w.heap.size w W → _) := fun W hW => soHas_any (h.sto.below hW) i true (by rw [decide_eq_true]; exact ⟨by omega, by omega⟩)
  have HD : Hid (∀ W, Below w.heap.size w W → _) := fun W hW => dead_any (h.sto.below hW).disk
  rw [h.lies.gone] at HD
  have HM := Lib.hid (fun W => soHomes_any i (by omega) W)
  have T3 : Hid (∀ W, Below w.heap.size w W → _) := fun W hW => soText_any (h.below hW) (3 + 2 * i) (by omega)
  have HP : Hid (∀ W, Below w.heap.size w W → _) := fun W hW => soPair_any (h.below hW) (3 + 2 * i) (by omega)
  have hk : 3 + 2 * i + 1 = 4 + 2 * i := by omega
  have hpk : pairOk σ (3 + 2 * i) = true := by unfold pairOk sgE; rw [hk, h3, h4]; simp
  have hB0 : sgB σ (3 + 2 * i) = half p.bytes 0 := by unfold sgB; rw [h3]; rfl
  have hB1 : sgB σ (4 + 2 * i) = half p.bytes 1 := by unfold sgB; rw [h4]; rfl
  rw [hpk, hk, hB0, hB1] at HP
  have hx := h.tidy.at_ (k := 3 + 2 * i) (by omega) h3
  have hne : secV σ (3 + 2 * i) ≠ zero128 := by
    rw [secV_some h3]
    exact secOf_zero hx.2 (by omega) (by have := hx.1; have := h.few; simp only at *; omega)
  have hne2 : ((secV σ (3 + 2 * i)).toList == zero128.toList) = false := by
    rw [beq_eq_false_iff_ne]
    intro e
    rw [ByteArray.toList_eq, ByteArray.toList_eq] at e
    exact hne (str_ext e)
  have hz := Pag.bytes_size hp
  have hj : half p.bytes 0 ++ half p.bytes 1 = p.bytes := halves hz
  have hs0 := half_size hz (k := 0) (by omega)
  have hs1 := half_size hz (k := 1) (by omega)
  have HU := Lib.hid (fun W => pgUnpack_bytes hp W)
  have hat : ((3 + 2 * i : Nat) : Int) ≤ 19 := by omega
  have hat0 : (0 : Int) ≤ ((3 + 2 * i : Nat) : Int) := by omega
  have hd0 : Hid (∀ W, Below w.heap.size w W → W.cell? ⟨s, 0, none⟩ = some (.pointer (some ⟨gd, 0, none⟩))) := fun W hW => (h.sto.below hW).cells.1
  have HZ := Lib.hid (fun W => zero128_c W)
  clear h h3 h4 hk hpk hB0 hB1 hne hx hp hz
  rw [← hj] at HU
  clear hj
  obtain ⟨a, d⟩ := p
  simp only at HU ⊢
  generalize secV σ (3 + 2 * i) = x at *
  generalize zero128 = z at *
  generalize sgE σ (3 + 2 * i) = E at *
  generalize half (Pag.bytes (a, d)) 0 = ha at *
  generalize half (Pag.bytes (a, d)) 1 = hb at *
  generalize 3 + 2 * i = at_ at *
  have R0 := Blk.new w 34 #[.int .i64 0, .string ⟨#[]⟩]
  have B0 := (Below.refl w.heap.size w).alloc (Nat.le_refl _) (.cells #[.int .i64 0, .string ⟨#[]⟩] 34)
  have c0 := hd0.out _ B0
  go_enter Try.func17, Try.ntmps17
  go_wp2_with fail
  refine (HH.out _ B0).mono ?_
  rintro e w1 ⟨rfl, rfl⟩
  go_wp2_with fail
  refine (HD.out _ B0).mono ?_
  rintro e w1 ⟨rfl, rfl⟩
  go_wp2_with fail
  refine (HM.out _).mono ?_
  rintro e w1 ⟨rfl, rfl⟩
  go_wp2_with fail
  refine (T3.out _ B0).mono ?_
  rintro e w2 ⟨rfl, hb2⟩
  have B2 := below2 B0 hb2
  have R2 := R0.keep hb2 R0.lt
  go_wp2_with fail
  refine (HZ.out _).mono ?_
  rintro e w3 ⟨rfl, hb3⟩
  have B3 := below2 B2 hb3
  have R3 := R2.keep hb3 R2.lt
  go_wp2_with fail
  refine (HP.out _ B3).mono ?_
  rintro e w4 ⟨rfl, hb4⟩
  have B4 := below2 B3 hb4
  have R4 := R3.keep hb4 R3.lt
  have B5 := B4.alloc B4.size (.cells #[.string ha, .string hb] 68)
  have R5 := R4.alloc (.cells #[.string ha, .string hb] 68)
  clear R0 R2 R3 R4 B2 B3 B4 hb2 hb3 hb4 T3 HM HD HH HP HZ hne2
  have hsz : (ha.size : Int) + hb.size ≤ 224 := by omega
  go_wp2_with fail
  refine (HU.out _).mono ?_
  rintro e w6 ⟨rfl, hb6⟩
  have B6 := below2 B5 hb6
  have R6 := R5.keep hb6 R5.lt
  have B7 := B6.alloc B6.size (.cells #[.int .i64 a, .string d] 34)
  have R7 := R6.alloc (.cells #[.int .i64 a, .string d] 34)
  have X7 := Blk.new w6 34 #[.int .i64 a, .string d]
  clear B5 B6 R5 R6 hb6
  go_wp2_with (first
    | (refine wpList_load_row rfl 34 _ rfl w6.heap.size rfl 34 _ (0, 0) _ X7 Try.underlying34 rfl (by kernel_rfl) ?_)
    | (refine wpList_store_row rfl 34 _ _ rfl w.heap.size _ rfl rfl 34 _ R7 (by kernel_rfl) (by simp) (by simp [Value.oneCell']) ?_))
  exact bodyPost_ret (results_row_tmp rfl _ _ w.heap.size 34 _ _ rfl (R7.setRow _) Try.underlying34 rfl (by kernel_rfl)) rfl ⟨rfl, below_setRow B7 (Nat.le_refl _) _⟩
theorem soRead_any (h : Stands7 w F s gd D base n t T σ) {i : Nat} {p : Pag} (hi : i < n) (hp : HomeOk σ i p) :
    Calls Try.prog 17 #[.pointer (some ⟨s, 0, none⟩), .int .i64 i] w fun e w' => e = .returned (.tuple #[.agg #[.int .i64 p.1, .string p.2], .int .i64 0]) ∧ Below w.heap.size w w' := by
  rcases hp with ⟨h3, h4, rfl⟩ | ⟨hp, e, h3, h4⟩
  · exact soRead_zero h hi h3 h4
  · exact soRead_some h hi hp h3 h4
set_option maxRecDepth 100000 in
theorem soRead_nil (i : Int) (w : World) : Calls Try.prog 17 #[.pointer none, .int .i64 i] w fun e w' => e = .returned (.tuple #[.agg #[.int .i64 0, .string ⟨#[]⟩], .int .i64 10]) ∧ Below w.heap.size w w' := by
  have R0 := Blk.new w 34 #[.int .i64 0, .string ⟨#[]⟩]
  have B0 := (Below.refl w.heap.size w).alloc (Nat.le_refl _) (.cells #[.int .i64 0, .string ⟨#[]⟩] 34)
  go_enter Try.func17, Try.ntmps17
  go_wp2_with (refine wpList_store_row rfl 34 _ _ rfl w.heap.size _ rfl rfl 34 _ R0 (by kernel_rfl) (by simp) (by simp [Value.oneCell']) ?_)
  exact bodyPost_ret (results_row_tmp rfl _ _ w.heap.size 34 _ _ rfl (R0.setRow _) Try.underlying34 rfl (by kernel_rfl)) rfl ⟨rfl, below_setRow B0 (Nat.le_refl _) _⟩
end
end Go.Proofs.Ytpjkejgnnceanaa

/- Package store: a store that was made since a world, between calls. -/
namespace Go.Proofs.Ytpjkejgnnceanaa
open Go.RowKit

structure Live7 (w0 w : World) (F : Foot) (s gd : Nat) (D : Dk) (base n t : Nat) (P : Nat → Pag) (σ : Sg) : Prop where
  sto : IsSto w F s gd D base n t
  calm : Calm7 D base n t P σ
  newF : ∀ b, F b → w0.heap.size ≤ b
  newS : w0.heap.size ≤ s
  below : Below w0.heap.size w0 w
  pos : 1 ≤ t
  n1 : 1 ≤ n
namespace Live7
variable {w0 w w' : World} {F F' : Foot} {s gd base n t : Nat} {D D' : Dk} {P : Nat → Pag} {σ : Sg}
theorem more (h : Live7 w0 w F s gd D base n t P σ) (hb : Below w.heap.size w w') : Live7 w0 w' F s gd D base n t P σ := ⟨h.sto.below hb, h.calm, h.newF, h.newS, h.below.trans (hb.mono h.below.size), h.pos, h.n1⟩
theorem newO (h : Live7 w0 w F s gd D base n t P σ) : ∀ b, OfS F s b → w0.heap.size ≤ b := fun b hb => hb.elim (h.newF b) fun e => e ▸ h.newS
theorem step {t' : Nat} {P' : Nat → Pag} {σ' : Sg} (h : Live7 w0 w F s gd D base n t P σ) (hs : IsSto w' F' s gd D' base n t') (st : Step (OfS F s) (OfS F' s) w w') (hc : Calm7 D' base n t' P' σ') (ht : 1 ≤ t') : Live7 w0 w' F' s gd D' base n t' P' σ' :=
  ⟨hs, hc, fun b hb => st.from_ h.newO h.below.size b (.inl hb), h.newS, st.belowB h.newO h.below h.below.size, ht, h.n1⟩
theorem stands (h : Live7 w0 w F s gd D base n t P σ) (ht : t ≤ 4294967296) : Stands7 w F s gd D base n t t σ := ⟨h.sto, h.calm.lies, h.calm.tidy, ht⟩
theorem waits (h : Live7 w0 w F s gd D base n t P σ) : D.waits = [] := h.calm.lies.waits
theorem read (h : Live7 w0 w F s gd D base n t P σ) (ht : t ≤ 4294967296) {i : Nat} (hi : i < n) :
    Calls Try.prog 17 #[.pointer (some ⟨s, 0, none⟩), .int .i64 i] w fun e w' => e = .returned (.tuple #[.agg #[.int .i64 (P i).1, .string (P i).2], .int .i64 0]) ∧ Below w.heap.size w w' :=
  soRead_any (h.stands ht) hi (h.calm.all.homes i hi)
theorem ticket (h : Live7 w0 w F s gd D base n t P σ) : Calls Try.prog 20 #[.pointer (some ⟨s, 0, none⟩)] w fun e w' => e = .returned (.int .i64 t) ∧ w = w' := soTicket_any h.sto
theorem form (h : Live7 w0 w F s gd D base n t P σ) {i : Nat} {a : Int} {d : ByteArray} (hi : i < n) (hp : ¬ PgOk a d) :
    Calls Try.prog 13 #[.pointer (some ⟨s, 0, none⟩), .int .i64 i, .agg #[.int .i64 a, .string d]] w fun e w' => e = .returned (.int .i64 3) ∧ ∃ F', Live7 w0 w' F' s gd D base n t P σ ∧ Step (OfS F s) (OfS F' s) w w' :=
  (soWrite_form h.sto hi hp).mono fun _ _ ⟨F', he, hs, st⟩ => ⟨he, F', h.step hs st h.calm h.pos, st⟩
/-- A write with a fuse that bears it, or none. -/
theorem write (h : Live7 w0 w F s gd D base n t P σ) (ht : t < 4294967296) {i : Nat} {p : Pag} (hi : i < n) (hp : p.Right) (hm : ∀ m, D.fuse = some m → 8 ≤ m) :
    Calls Try.prog 13 #[.pointer (some ⟨s, 0, none⟩), .int .i64 i, .agg #[.int .i64 p.1, .string p.2]] w fun e w' => e = .returned (.int .i64 0) ∧ ∃ F' D' σ', Live7 w0 w' F' s gd D' base n (t + 1) (putP P i p) σ' ∧ Step (OfS F s) (OfS F' s) w w' ∧ D'.fuse = D.fuse.map (· - 8) ∧ ∃ b, σ' 0 = some (t, b) := by
  obtain ⟨D', σ', ha, hc, hf, hl, hb⟩ := h.calm.write h.sto.n8 hi hp hm
  have := soWrite_ok h.sto hi hp ht h.calm.lies.rep.room (by rw [h.waits]; simp)
  rw [ha] at this
  exact this.mono fun _ _ ⟨F', he, hs, st⟩ => ⟨he, F', D', σ', h.step hs st hc (by omega), st, hf, hb⟩
/-- A write whose power goes. -/
theorem cut (h : Live7 w0 w F s gd D base n t P σ) (ht : t < 4294967296) {i : Nat} {p : Pag} (hi : i < n) (hp : p.Right) {D' : Dk} (ha : acts ((writeSA i t p).map (SA.act base)) D = (D', 4)) :
    Calls Try.prog 13 #[.pointer (some ⟨s, 0, none⟩), .int .i64 i, .agg #[.int .i64 p.1, .string p.2]] w fun e w' => e = .returned (.int .i64 4) ∧ ∃ F', IsSto w' F' s gd D' base n (t + 1) ∧ Step (OfS F s) (OfS F' s) w w' := by
  have := soWrite_ok h.sto hi hp ht h.calm.lies.rep.room (by rw [h.waits]; simp)
  rw [ha] at this
  exact this.mono fun _ _ ⟨F', he, hs, st⟩ => ⟨he, F', hs, st⟩
theorem make {gd : Nat} (h : IsDisk w F gd (Dk.new (base + (3 + 2 * n)))) (hn : ∀ b, F b → w0.heap.size ≤ b) (hb0 : Below w0.heap.size w0 w) (h1 : 1 ≤ n) (h8 : n ≤ 8) :
    Calls Try.prog 8 #[.pointer (some ⟨gd, 0, none⟩), .int .i64 base, .int .i64 n] w fun e w' => ∃ s, e = .returned (.tuple #[.pointer (some ⟨s, 0, none⟩), .int .i64 0]) ∧ Live7 w0 w' F s gd (Dk.new (base + (3 + 2 * n))) base n 1 (fun _ => emptyPg) (fun _ => none) ∧ Below w.heap.size w w' := by
  have hN := h.1.le
  refine (soNew_ok h base n h1 h8 (by simp [Dk.new])).mono fun _ _ ⟨s, he, hs, hge, hb⟩ => ⟨s, he, ⟨hs, Calm7.new (by omega) (by simpa [Dk.new] using hN) (Nat.le_refl _), hn, Nat.le_trans hb0.size hge, hb0.trans (hb.mono hb0.size), Nat.le_refl _, h1⟩, hb⟩
theorem arm (h : Live7 w0 w F s gd D base n t P σ) (k : Int) (hk : k < 9223372036854775808) :
    Calls Try.prog 14 #[.pointer (some ⟨gd, 0, none⟩), .int .i64 k] w fun e w' => e = .returned (.tuple #[]) ∧ Live7 w0 w' F s gd (D.arm k) base n t P σ ∧ Step (OfS F s) (OfS F s) w w' :=
  (arm_any h.sto.disk k hk).mono fun _ _ ⟨he, hd, st⟩ => ⟨he, h.step (h.sto.onDisk hd st) st.ofS ⟨h.calm.lies.arm k hk, h.calm.all, h.calm.tidy⟩ h.pos, st.ofS⟩
end Live7

/-- A disk behind a crash: a store is to be opened. -/
structure Lost7 (w0 w : World) (F : Foot) (gd : Nat) (D : Dk) (base n T : Nat) (P : Nat → Pag) (σ : Sg) : Prop where
  disk : IsDisk w F gd D
  torn : Torn7 D base n T P σ
  newF : ∀ b, F b → w0.heap.size ≤ b
  below : Below w0.heap.size w0 w
  few : T ≤ 4294967296
  pos : 1 ≤ T
  n1 : 1 ≤ n
  n8 : n ≤ 8
/-- What opening writes, and what becomes of the disk where it is borne. -/
theorem torn_ends {D : Dk} {base n T : Nat} {P : Nat → Pag} {σ : Sg} (h : Torn7 D base n T P σ) (hn : n ≤ 8) (hm : ∀ m, D.fuse = some m → 3 ≤ m) :
    ∃ ls D' σ', Ends σ n ls ∧ acts (ls.map (SA.act base)) D = (D', 0) ∧ Calm7 D' base n T P σ' ∧ (D.fuse = none → D'.fuse = none) ∧ ∀ k, k < 3 → σ' k = σ k := by
  by_cases hj : ∀ j e a b, ¬ Jour σ n j e a b
  · exact ⟨[], D, σ, .inl ⟨hj, rfl⟩, rfl, h.open0 hj, fun h => h, fun _ _ => rfl⟩
  · have : ∃ j e a b, Jour σ n j e a b := Classical.byContradiction fun hno => hj fun j e a b J => hno ⟨j, e, a, b, J⟩
    obtain ⟨j, e, a, b, J⟩ := this
    obtain ⟨D', σ', k1, k2, k3, k4, k5⟩ := h.open1 hn J hm
    exact ⟨_, D', σ', .inr ⟨j, e, a, b, J, rfl⟩, k1, k2, fun hf => by rw [k3, hf]; rfl, k5⟩
namespace Lost7
variable {w0 w w' : World} {F F' : Foot} {gd base n T : Nat} {D : Dk} {P : Nat → Pag} {σ : Sg}
theorem open_ (h : Lost7 w0 w F gd D base n T P σ) (hm : ∀ m, D.fuse = some m → 3 ≤ m) :
    Calls Try.prog 16 #[.pointer (some ⟨gd, 0, none⟩), .int .i64 base, .int .i64 n] w fun e w' => ∃ s F' D' σ', e = .returned (.tuple #[.pointer (some ⟨s, 0, none⟩), .int .i64 0]) ∧ Live7 w0 w' F' s gd D' base n (nextOf σ' n) P σ' ∧ Calm7 D' base n T P σ' ∧ w.heap.size ≤ s ∧ Step F F' w w' ∧ (D.fuse = none → D'.fuse = none) ∧ ∀ k, k < 3 → σ' k = σ k := by
  obtain ⟨ls, D', σ', he, ha, hc, hf, hk⟩ := torn_ends h.torn h.n8 hm
  refine (soOpen_ok h.disk h.torn.lies h.torn.tidy h.few h.n1 h.n8 (by rw [h.torn.lies.waits]; simp) he ha hc.lies hc.tidy).mono fun _ _ ⟨s, F', e1, hs, hge, st⟩ => ?_
  exact ⟨s, F', D', σ', e1, ⟨hs, ⟨hc.lies, hc.all, nextOf_tidy hc.tidy⟩, st.from_ h.newF h.below.size, Nat.le_trans h.below.size hge, st.belowB h.newF h.below h.below.size, nextTo_one σ' _, h.n1⟩, hc, hge, st, hf, hk⟩
theorem open_cut (h : Lost7 w0 w F gd D base n T P σ) {ls : List SA} (he : Ends σ n ls) {D' : Dk} (ha : acts (ls.map (SA.act base)) D = (D', 4)) :
    Calls Try.prog 16 #[.pointer (some ⟨gd, 0, none⟩), .int .i64 base, .int .i64 n] w fun e w' => e = .returned (.tuple #[.pointer none, .int .i64 4]) ∧ ∃ F', IsDisk w' F' gd D' ∧ Step F F' w w' :=
  soOpen_dead h.disk h.torn.lies h.torn.tidy h.few h.n1 h.n8 (by rw [h.torn.lies.waits]; simp) he ha
end Lost7
end Go.Proofs.Ytpjkejgnnceanaa

/- careenlaw07: what the document fixes comes out. -/
namespace Go.Proofs.Ytpjkejgnnceanaa
open Go.RowKit

/-- A page is equal to itself. -/
theorem wp_page_same {ops : Array Oper} {rest : List Oper} {o : Oper} {a : Act} {w : World} {Q : Exit → Act → World → Prop} (x y : Operand) (ty : TypeId) (ho : o.op = .binOp .eql 34 x y ty)
    (hw : Region.wanted o (yielded ops a.tmps) = true) (A : Int) (D : ByteArray) (hx : a.eval x = .agg #[.int .i64 A, .string D]) (hy : a.eval y = .agg #[.int .i64 A, .string D])
    (h : wpList Try.prog ops Q rest (a.put o.dst (.bool true)) w) : wpList Try.prog ops Q (o :: rest) a w :=
  wp_page_eql x y ty ho hw A A D D hx hy (by simpa using h)
namespace Aw7
def p : Pag := (9, noughts)
theorem pr : p.Right := ⟨⟨by decide, by decide⟩, noughts_size⟩
def P0 : Nat → Pag := fun _ => emptyPg
theorem torn {D : Dk} (h : Calm7 D 0 2 1 P0 (fun _ => none)) (hf : D.fuse = some 5) : ∃ D' σ', acts ((writeSA 1 1 p).map (SA.act 0)) D = (D', 4) ∧ D'.waits.length ≤ 8 ∧ Torn7 (D'.crash []) 0 2 2 (putP P0 1 p) σ' ∧ (D'.crash []).fuse = none ∧ ∃ b, σ' 0 = some (1, b) := by
  obtain ⟨D', k1, k2, k3, σ', k4, k5, k6, k7, k8⟩ := h.lies.cut (writeSA 1 1 p) (writeSA_fits (by decide) pr) 5 hf (by decide) []
  have e : ∀ k, σ' k = upd (upd (upd (fun _ => none) 0 (1, half p.bytes 0)) 1 (1, half p.bytes 1)) 2 (1, oneB 1) k := fun k => (k4 k).elim id fun ⟨z, hz, _⟩ => by cases hz
  obtain ⟨g, gt⟩ := stageC (σ' := σ') (i := 1) (p := p) (t := 1) (by decide) h.all h.tidy (by decide) pr (by rw [e, upd_other _ _ (by omega), upd_other _ _ (by omega), upd_same]) (by rw [e, upd_other _ _ (by omega), upd_same]) (by rw [e, upd_same])
    (fun k hk _ _ => by rw [e, upd_other _ _ (by omega), upd_other _ _ (by omega), upd_other _ _ (by omega)])
    (fun k hk => .inl (by rw [e, upd_other _ _ (by omega), upd_other _ _ (by omega), upd_other _ _ (by omega)]))
  exact ⟨D', σ', k1, k8, ⟨k5, g, gt⟩, k6, _, by rw [e, upd_other _ _ (by omega), upd_other _ _ (by omega), upd_same]⟩
theorem next {σ' σ : Sg} {b : ByteArray} {D : Dk} {P : Nat → Pag} (hc : Calm7 D 0 2 2 P σ') (h0 : σ 0 = some (1, b)) (hs : ∀ k, k < 3 → σ' k = σ k) : nextOf σ' 2 = 2 := by
  have h1 := nextOf_le hc.tidy (by decide)
  have h2 := nextTo_gt σ' (3 + 2 * 2) 0 (by decide) 1 b ((hs 0 (by decide)).trans h0)
  have : nextOf σ' 2 = nextTo σ' (3 + 2 * 2) := rfl
  omega
end Aw7
set_option maxRecDepth 100000 in
set_option maxHeartbeats 16000000 in
theorem awake7 (w : World) : Calls Try.prog 9 #[] w fun e w' => e = .returned (.bool true) ∧ Below w.heap.size w w' := by
  go_enter Try.func9, Try.ntmps9
  go_wp2_with fail
  refine (new_ok 7 w (by omega) (by omega)).mono ?_
  rintro e w1 ⟨gd, FD, rfl, hd, hFD, hb1⟩
  have HD := Lib.hid hd
  have HFD := Lib.hid hFD
  have HB1 := Lib.hid hb1
  clear hd hFD hb1
  go_wp2_with fail
  refine (Live7.make (base := 0) (n := 2) HD.out HFD.out HB1.out (by omega) (by omega)).mono ?_
  rintro e w2 ⟨s, rfl, hl, -⟩
  have L2 := Lib.hid hl
  clear hl HD HB1 HFD
  go_wp2_with fail
  refine (pgRefEmpty_any _).mono ?_
  rintro e w3 ⟨rfl, hb3⟩
  have L3 := Lib.hid (L2.out.more hb3)
  clear L2 hb3
  have hfd : ∀ W : World, (Instr.field 34 (.agg #[.int .i64 0, .string noughts]) 1).run Try.prog W = .ok (.string noughts) W := fun _ => by kernel_rfl
  generalize hN : noughts = N0 at *
  have HN := Lib.hid hN
  clear hN
  go_wp2_with fail
  have x4 := Blk.new w3 34 #[.int .i64 9, .string N0]
  have b4 := (Below.refl w3.heap.size w3).alloc (Nat.le_refl _) (.cells #[.int .i64 9, .string N0] 34)
  have L4 := Lib.hid (L3.out.more b4)
  have X4 := Lib.hid x4
  have hxo : Hid (∀ b, OfS FD s b → b < w3.heap.size) := fun b hb => hb.elim (L3.out.sto.disk.lt b) fun e => e ▸ L3.out.sto.head.lt
  clear x4 b4 L3
  generalize w3.alloc (.cells #[.int .i64 9, .string N0] 34) = w4 at *
  generalize w3.heap.size = x at *
  refine (L4.out.arm 5 (by omega)).mono ?_
  rintro e w5 ⟨rfl, hl5, hs5⟩
  have L5 := Lib.hid hl5
  have x5 : Blk w5 x 34 #[.int .i64 9, .string N0] := (hs5.block x X4.out.lt (fun hb => by have := hxo.out x hb; omega)).trans X4.out
  have hxo5 : Hid (¬ OfS FD s x) := fun hb => by have := hxo.out x hb; omega
  clear hl5 hs5 L4 X4 hxo
  go_wp2_with (refine wpList_load_row rfl 34 _ rfl x rfl 34 _ (0, 0) _ x5 Try.underlying34 rfl (by kernel_rfl) ?_)
  obtain ⟨D', σ', ha, hw', ht, hf, hb0⟩ := Aw7.torn (show Calm7 _ 0 2 1 Aw7.P0 (fun _ => none) from L5.out.calm) rfl
  have hcut := L5.out.cut (by omega) (i := 1) (p := Aw7.p) (by omega) Aw7.pr ha
  have hp2 : Aw7.p.2 = N0 := HN.out
  rw [hp2] at hcut
  have HCUT := Lib.hid hcut
  have HT := Lib.hid ht
  have HFU := Lib.hid hf
  have HB0 := Lib.hid hb0
  have HW := Lib.hid hw'
  have HNO := Lib.hid L5.out.newO
  have HBE := Lib.hid L5.out.below
  clear ha hw' ht hf hb0 hcut hp2 L5
  refine HCUT.out.mono ?_
  rintro e w6 ⟨rfl, F6, hs6, st6⟩
  have x6 := (st6.block x x5.lt hxo5.out).trans x5
  have S6 := Lib.hid hs6
  have N6 := Lib.hid (st6.from_ HNO.out HBE.out.size)
  have B6 := Lib.hid (st6.belowB HNO.out HBE.out HBE.out.size)
  have hxo6 : Hid (¬ F6 x) := fun hb => by
    rcases st6.foot x (.inl hb) with h1 | h1
    · exact hxo5.out h1
    · have := x5.lt; omega
  clear hs6 st6 HCUT HNO HBE hxo5 x5
  go_wp2_with fail
  refine (crash_any S6.out.disk (.slice none 0 0) [] ⟨none, 0, rfl, Nat.le_refl _, fun j x hj => by simp [byteVs] at hj⟩ (fun h => absurd rfl h)).mono ?_
  rintro e w7 ⟨rfl, hd7, st7⟩
  have x7 : Blk w7 x 34 #[.int .i64 9, .string N0] := (st7.block x (Blk.lt x6) hxo6.out).trans x6
  have T7 : Hid (Lost7 w w7 F6 gd (D'.crash []) 0 2 2 (putP Aw7.P0 1 Aw7.p) σ') := ⟨hd7, HT.out, fun b hb => N6.out b (.inl hb), st7.belowB (fun b hb => N6.out b (.inl hb)) B6.out B6.out.size, by omega, by omega, by omega, by omega⟩
  clear hd7 st7 S6 N6 B6 HT x6
  go_wp2_with fail
  refine (T7.out.open_ (fun m hm => by rw [HFU.out] at hm; cases hm)).mono ?_
  rintro e w8 ⟨s2, F8, D8, σ8, rfl, hl8, hc8, hge8, st8, hf8, hk8⟩
  have hnx : Hid (nextOf σ8 2 = 2) := by
    obtain ⟨b, hb⟩ := HB0.out
    exact Aw7.next hc8 hb hk8
  have L8 := Lib.hid hl8
  rw [hnx.out] at L8
  have x8 : Blk w8 x 34 #[.int .i64 9, .string N0] := (st8.block x x7.lt hxo6.out).trans x7
  clear hl8 hc8 hge8 st8 hf8 hk8 hnx x7 hxo6 T7 HFU HB0 HW
  have h1 : Hid ((putP Aw7.P0 1 Aw7.p 1).1 = 9 ∧ (putP Aw7.P0 1 Aw7.p 1).2 = N0) := ⟨rfl, HN.out⟩
  have h0 : Hid ((putP Aw7.P0 1 Aw7.p 0).1 = 0 ∧ (putP Aw7.P0 1 Aw7.p 0).2 = N0) := ⟨rfl, HN.out⟩
  have R1 := Lib.hid (L8.out.read (by omega) (i := 1) (by omega))
  rw [h1.out.1, h1.out.2] at R1
  go_wp2_with fail
  refine R1.out.mono ?_
  rintro e w9 ⟨rfl, hb9⟩
  have L9 := Lib.hid (L8.out.more (hb9.alloc hb9.size (.cells #[.int .i64 9, .string N0] 34)))
  have x9 := (x8.keep hb9 x8.lt).alloc (.cells #[.int .i64 9, .string N0] 34)
  have y9 := Blk.new w9 34 #[.int .i64 9, .string N0]
  clear hb9 L8 R1 x8
  go_upto_region 9 with fail
  change Code.wp _ _ _ _ (w9.alloc (.cells #[.int .i64 9, .string N0] 34))
  generalize w9.alloc (.cells #[.int .i64 9, .string N0] 34) = w10 at *
  generalize w9.heap.size = y at *
  have R0 := Lib.hid (L9.out.read (by omega) (i := 0) (by omega))
  rw [h0.out.1, h0.out.2] at R0
  go_wp2_with fail
  refine R0.out.mono ?_
  rintro e w11 ⟨rfl, hb11⟩
  have L12 := Lib.hid (L9.out.more (hb11.alloc hb11.size (.cells #[.int .i64 0, .string N0] 34)))
  have x12 := (x9.keep hb11 x9.lt).alloc (.cells #[.int .i64 0, .string N0] 34)
  have y12 := (y9.keep hb11 y9.lt).alloc (.cells #[.int .i64 0, .string N0] 34)
  have z12 := Blk.new w11 34 #[.int .i64 0, .string N0]
  clear hb11 L9 R0 x9 y9
  go_upto_region 10 with fail
  change Code.wp _ _ _ _ (w11.alloc (.cells #[.int .i64 0, .string N0] 34))
  generalize w11.alloc (.cells #[.int .i64 0, .string N0] 34) = w12 at *
  generalize w11.heap.size = z at *
  have E0 := Lib.hid (fun W => pgRefEmpty_any W)
  rw [HN.out] at E0
  have C : Hid (∀ W, Below w12.heap.size w12 W → Blk W x 34 #[.int .i64 9, .string N0] ∧ Blk W y 34 #[.int .i64 9, .string N0] ∧ Blk W z 34 #[.int .i64 0, .string N0]) := fun W hW => ⟨x12.keep hW x12.lt, y12.keep hW y12.lt, z12.keep hW z12.lt⟩
  have TK : Hid (∀ W, Below w12.heap.size w12 W → _) := fun W hW => (L12.out.more hW).ticket
  have SC := Lib.hid (fun W => soSectors_any 2 (by omega) W)
  clear x12 y12 z12
  refine' wp_region_conf 38 (.is _ :: .is _ :: .is _ :: .is _ :: .is _ :: .is _ :: .is _ :: .is _ :: .is _ :: .is _ :: .is _ :: .is _ :: .is _ :: .is _ :: .is _ :: .is _ :: .is _ :: .is _ :: .is _ :: .is _ :: .is _ :: .is _ :: .is _ :: .is _ :: .is _ :: .is _ :: .is _ :: .is _ :: .is _ :: .is _ :: .is _ :: .is _ :: .is _ :: .is _ :: .is _ :: .is _ :: .is _ :: .is _ :: []) (by kernel_rfl) (by kernel_rfl) (by kernel_rfl) (by kernel_rfl) rfl ?main
  case main =>
    iterate 38
      apply obs_step
      · rfl
      · intro w13 hE13 hk
        have hb13 := (Below.refl w12.heap.size w12).drew.trans hE13
        obtain ⟨q1, q2, q3⟩ := C.out w13 hb13
        have T13 := TK.out w13 hb13
        clear hk hE13
        go_wp2_with (first
          | (go_at_call 21; refine (SC.out _).mono ?_; rintro e w14 ⟨rfl, rfl⟩)
          | (go_at_call 11; refine (E0.out _).mono ?_; rintro e w14 ⟨rfl, hbE⟩)
          | (go_at_call 20; refine T13.mono ?_; rintro e w14 ⟨rfl, rfl⟩)
          | (refine wpList_load_row rfl 34 _ rfl x rfl 34 _ (0, 0) _ q1 Try.underlying34 rfl (by kernel_rfl) ?_)
          | (refine wpList_load_row rfl 34 _ rfl y rfl 34 _ (0, 0) _ q2 Try.underlying34 rfl (by kernel_rfl) ?_)
          | (refine wpList_load_row rfl 34 _ rfl z rfl 34 _ (0, 0) _ q3 Try.underlying34 rfl (by kernel_rfl) ?_)
          | (refine wp_page_same _ _ _ rfl rfl 9 N0 rfl rfl ?_)
          | (refine wp_page_same _ _ _ rfl rfl 0 N0 rfl rfl ?_))
        first | refine post_eq ?_ hbE | refine post_eq ?_ (Below.refl _ _)
        simp only [Act.put, List.setIfInBounds_toArray, List.set_cons_zero, List.set_cons_succ]
        try rfl
      · simp only [Act.put, List.setIfInBounds_toArray, List.set_cons_zero, List.set_cons_succ]
        rfl
    refine obs_end fun w15 hE15 _ => ?_
    have HB := Lib.hid ((L12.out.more ((Below.refl w12.heap.size w12).drew.trans hE15)).below)
    clear hE15 L12 C TK
    change wpList _ _ _ _ _ _
    go_wp2
    go_ret
    exact ⟨rfl, HB.out⟩
end Go.Proofs.Ytpjkejgnnceanaa
