/- Package chain: Undo walked. -/
import Derived.Test.YtecalnglidjmgaaChJ
import Derived.Test.YtecalnglidjmgaaRegIn
namespace Go.Proofs.Ytecalnglidjmgaa
open Go.RowKit Go.Shelf

attribute [local go_sem] Oper.semAt_some
theorem infoRec : (Try.prog.info? 45).map (fun i => (i.zero, i.size, i.bytes)) = some (some (.agg #[.int .i64 0, .int .i64 0, .int .i64 0, .int .i64 0, .int .i64 0, .int .i64 0, .int .i64 0, .string ⟨#[]⟩, .string ⟨#[]⟩, .slice none 0 0, .slice none 0 0]), 11, 136) := by kernel_rfl

theorem keepsOthers_below {A B : World} (h : Below A.heap.size A B) : KeepsOthers A B := ⟨h.size, fun k _ hk _ => (h.block k (Array.getElem?_eq_some_iff.1 hk).1).trans hk⟩
theorem seen_ok {pre : List Sm} {r : Rc} (h : ∀ x ∈ pre, x.2 = 0) : ∀ x ∈ pre ++ [(r, 0)], x.2 = 0 := fun x hx => by
  rcases List.mem_append.1 hx with hx | hx
  · exact h x hx
  · simp at hx; subst hx; rfl
/-- What Undo hands back. -/
def UndoR (w w' : World) (U : List Rc × Nat) (e : Ending) : Prop := ∃ (u : Value) (B : Nat), e = .returned (.tuple #[u, .int .i64 U.2]) ∧ w.heap.size ≤ B ∧ w'.ownsRow B 45 11 u U.1.length (recsN U.1) ∧ Below w.heap.size w w'

set_option maxRecDepth 100000 in
set_option maxHeartbeats 8000000 in
theorem chUndoAll {w : World} {v : Value} {l : List En} (hv : IsEnts w v l) (hn : l.length ≤ 1000) (hf : ∀ x ∈ l, x.2.before.size ≤ 300) (t p s : Int) :
    Calls Try.prog 14 #[v, .int .i64 t, .int .i64 p, .int .i64 s] w fun e w' => UndoR w w' (Ch.undo l t p s) e := by
  have HV := Lib.hid hv
  have SV := Lib.hid (show SlV v from by obtain ⟨a, c, rfl, _⟩ := hv; exact ⟨_, _, _, rfl⟩)
  obtain ⟨A, hS, hA, hA0, hAl, hAm⟩ := undo_seq l t p s
  obtain ⟨N, hN⟩ : ∃ N, N = (Ch.undo l t p s).1 := ⟨_, rfl⟩
  obtain ⟨K, hK⟩ : ∃ K, K = (Ch.undo l t p s).2 := ⟨_, rfl⟩
  rw [← hN, ← hK] at hA hA0
  rw [← hK] at hS
  have eU : Ch.undo l t p s = (N, K) := by rw [hN, hK]
  rw [eU]
  unfold UndoR
  have HS := Lib.hid hS
  have HA := Lib.hid hA
  have HA0 := Lib.hid hA0
  have HF := Lib.hid (show ∀ r ∈ A, r.before.size ≤ 300 from fun r hr => by obtain ⟨x, hx, rfl⟩ := hAm r hr; exact hf x hx)
  clear hS hA hA0 hN hK hv eU hAm hf
  have s0 := (((Blk.new w 3 #[.int .i64 s]).alloc (.cells #[.slice none 0 0] 33)).alloc (.cells #[.int .i64 0] 26)).alloc (.cells #[.slice none 0 0] 33)
  have r0 := ((Blk.new (w.alloc (.cells #[.int .i64 s] 3)) 33 #[.slice none 0 0]).alloc (.cells #[.int .i64 0] 26)).alloc (.cells #[.slice none 0 0] 33)
  have r1 := (Blk.new ((w.alloc (.cells #[.int .i64 s] 3)).alloc (.cells #[.slice none 0 0] 33)) 26 #[.int .i64 0]).alloc (.cells #[.slice none 0 0] 33)
  have b1 := Blk.new (((w.alloc (.cells #[.int .i64 s] 3)).alloc (.cells #[.slice none 0 0] 33)).alloc (.cells #[.int .i64 0] 26)) 33 #[.slice none 0 0]
  have hB := ((((Below.refl w.heap.size w).alloc (Nat.le_refl _) (.cells #[.int .i64 s] 3)).alloc (by simp) (.cells #[.slice none 0 0] 33)).alloc (by simp; omega) (.cells #[.int .i64 0] 26)).alloc (by simp; omega) (.cells #[.slice none 0 0] 33)
  simp only [World.size_alloc] at r0 r1 b1
  obtain ⟨w1, hw1⟩ : ∃ w1, w1 = (((w.alloc (.cells #[.int .i64 s] 3)).alloc (.cells #[.slice none 0 0] 33)).alloc (.cells #[.int .i64 0] 26)).alloc (.cells #[.slice none 0 0] 33) := ⟨_, rfl⟩
  rw [← hw1] at s0 r0 r1 b1 hB
  have HW1 := Lib.hid hw1
  have S0 := Lib.hid s0
  have R0 := Lib.hid r0
  have R1 := Lib.hid r1
  have B1 := Lib.hid b1
  have HB := Lib.hid hB
  have C := Lib.hid (chStanding v SV.out t p 27 #[.pointer (some ⟨w.heap.size, 0, none⟩)] w1)
  clear hw1 s0 r0 r1 b1 hB
  obtain ⟨dk⟩ : Nonempty Nat := ⟨0⟩
  refine (callsIn_wide (n := dk)).1 ?_
  refine callsIn_of_wp_marks Try.func14 rfl trivial ?_ rfl
  simp only [Try.ntmps14, List.size_toArray, List.length_cons, List.length_nil, Nat.reduceAdd, Nat.reduceSub, Array.replicate_succ, Array.replicate_zero, List.push_toArray, List.append_toArray, List.nil_append, List.cons_append]
  have hl1 : w.heap.size + 1 + 1 + 1 < w1.heap.size := B1.out.lt
  gi_wp2_with (refine ⟨trivial, noDepth1 _, ?_⟩; gi_at_call 26; rw [← HW1.out]; refine (callsIn_wide.2 C.out).mono ?_; rintro e w2 ⟨rfl, hb2, hz2, k1, k2, k3, k4⟩; clear C)
  have hm2 : w.heap.size ≤ w2.heap.size := Nat.le_trans HB.out.size hb2.size
  have hl2 : w.heap.size + 1 + 1 + 1 < w2.heap.size := Nat.lt_of_lt_of_le hl1 hb2.size
  have S1 := chStanding1 (w0 := w) (n := w2.heap.size) (b0 := w.heap.size + 1 + 1 + 1) (e := 45) (dk - 1) HV.out (HB.out.trans (hb2.mono HB.out.size)) k1 k2 k3 k4 (S0.out.keep hb2 S0.out.lt) (wantsAbove _ _ _ _ w.heap.size s (by omega) (by omega)) hn otherRec hl2
  rw [HS.out] at S1
  refine wpIn_gives (F := Fence.wide) rfl (noDepth1 _) (gf := 33) (lb := #[.pointer (some ⟨w1.heap.size, 0, none⟩), .pointer (some ⟨w1.heap.size + 1, 0, none⟩), .pointer (some ⟨w1.heap.size + 2, 0, none⟩), .pointer (some ⟨w1.heap.size + 3, 0, none⟩)]) rfl trivial
    (enters_of Try.func33 (by kernel_rfl) rfl) S1 (fun h k => h.trans k) (fun W l o o' hl hk ho => Kp.put o' (by omega) hk ho) (Below.refl _ _) (fun x ys h => by obtain ⟨_, _, _, _, rfl⟩ := h; rfl)
    (fun pre X => SeesU w w2.heap.size pre X) (fun pre X => Below w.heap.size w X ∧ Blk X (w.heap.size + 1) 33 #[.slice none 0 0] ∧ Blk X (w.heap.size + 1 + 1) 26 #[.int .i64 K] ∧ K ≠ 0)
    (fun x a' pre X => SeesU w w2.heap.size pre X ∧ ∃ B vt vp, SlV vt ∧ SlV vp ∧ Blk X B 45 (recCells x.1 vt vp) ∧
      a' = { tmps := #[v, .int .i64 t, .int .i64 p, .int .i64 s, undef, undef, undef, .pointer (some ⟨w.heap.size, 0, none⟩), .pointer (some ⟨w.heap.size + 1, 0, none⟩), .pointer (some ⟨w.heap.size + 1 + 1, 0, none⟩), .func (.func 27) #[] #[.pointer (some ⟨w.heap.size, 0, none⟩)], .pointer (some ⟨w.heap.size + 1 + 1 + 1, 0, none⟩),
        .pointer (some ⟨B, 0, none⟩), .int .i64 x.2, .func (.func 27) #[] #[.pointer (some ⟨w.heap.size, 0, none⟩)], v, .int .i64 t, .int .i64 p, .func (.func 27) #[] #[.pointer (some ⟨w.heap.size, 0, none⟩)],
        .func (.func 33) #[] #[.pointer (some ⟨w1.heap.size, 0, none⟩), .pointer (some ⟨w1.heap.size + 1, 0, none⟩), .pointer (some ⟨w1.heap.size + 2, 0, none⟩), .pointer (some ⟨w1.heap.size + 3, 0, none⟩)],
        recV x.1 vt vp, .int .i64 x.2, undef, undef, undef, undef, undef, undef, undef, undef, undef], defers := [] })
    ?hI ?hIx ?hMid ?h0 ?assign ?body ?done ?stop
  case hI => exact own_seesU hm2
  case hIx =>
    intro s A B row hs hg hr
    exact ⟨ownFrom_below (β := Unit) (Nat.le_refl _) hm2 () A B row hs.1 hg hr, ownFrom_cells _ _ _ _ _ () A B row hs.2.1 hg hr, ownFrom_cells _ _ _ _ _ () A B row hs.2.2.1 hg hr, hs.2.2.2⟩
  case hMid =>
    intro x a' s A B row hs hg hr
    obtain ⟨h1, X, vt, vp, s1, s2, hx, e⟩ := hs
    exact ⟨own_seesU hm2 s A B row h1 hg hr, X, vt, vp, s1, s2, ownFrom_cells _ _ _ _ _ () A B row hx hg hr, e⟩
  case h0 =>
    exact ⟨nofun, HB.out.trans (hb2.mono HB.out.size), Nat.le_refl _, R0.out.keep hb2 R0.out.lt, R1.out.keep hb2 R1.out.lt, _, B1.out.keep hb2 B1.out.lt, World.ownsRow_nil w2 _ _ 11⟩
  case assign =>
    rintro l' pre x ys X hx ⟨vt, vp, s1, s2, rfl⟩ hI
    have HI := Lib.hid hI
    obtain ⟨ta, tn, tc, rfl⟩ := s1
    obtain ⟨pa, pn, pc, rfl⟩ := s2
    unfold recV recCells
    clear hI
    gi_wp2
    have hb := (Below.refl X.heap.size X).alloc (Nat.le_refl _) (.cells (recCells x.1 (.slice ta tn tc) (.slice pa pn pc)) 45)
    exact ⟨KeepsOthers.alloc _ _, Kp.ofBelow hb HI.out.below.size, (own_seesU (Nat.le_refl _) _ _ _ none HI.out ⟨hb.os, hb.tape, hb.output, hb.size, fun k hk _ => hb.block k hk⟩ fun r e => by cases e),
      X.heap.size, .slice ta tn tc, .slice pa pn pc, ⟨_, _, _, rfl⟩, ⟨_, _, _, rfl⟩, Blk.new X _ _, rfl⟩
  case body =>
    rintro l' pre ⟨r, ec⟩ a' X hx ⟨hI, B, vt, vp, s1, s2, hX, rfl⟩
    have HI := Lib.hid hI
    have PX := Lib.hid hx
    have f0 := hI.r0.frozen 0
    have f1 := hI.r1.frozen 0
    have d0 := hI.r0.cell 0
    have d1 := hI.r1.cell 0
    simp only [List.getElem?_toArray, List.getElem?_cons_zero] at d0 d1
    have hle : pre.length < 1001 := by
      have h1 := (List.IsPrefix.length_le hx)
      rw [List.length_append, List.length_append, okA_len] at h1
      have h2 : (errT K).length ≤ 1 := by unfold errT; split <;> simp
      simp at h1
      omega
    by_cases hec : ec = 0
    · subst hec
      obtain ⟨u, hu, hrow⟩ := hI.b
      have hrA : r ∈ A := by
        have hm : (r, 0) ∈ okA A ++ errT K := hx.subset (by simp)
        rcases List.mem_append.1 hm with h | h
        · unfold okA at h
          obtain ⟨y, hy, e⟩ := List.mem_map.1 h
          cases e
          exact hy
        · have := errT_mem h
          exact absurd this.1.symm this.2
      have CU0 := fun W => chUndo r vt vp s1 s2 (HF.out r hrA) W
      obtain ⟨ta, tn, tc, rfl⟩ := s1
      obtain ⟨pa, pn, pc, rfl⟩ := s2
      have CU : Hid (∀ W, Calls Try.prog 28 #[.agg #[.int .i64 r.kind, .int .i64 r.txn, .int .i64 r.page, .int .i64 r.off, .int .i64 r.prev, .int .i64 r.next, .int .i64 r.beg, .string r.before, .string r.after, .slice ta tn tc, .slice pa pn pc]] W fun e w' => e = .returned (.agg #[.int .i64 2, .int .i64 r.txn, .int .i64 r.page, .int .i64 r.off, .int .i64 0, .int .i64 r.prev, .int .i64 0, .string ⟨#[]⟩, .string r.before, .slice none 0 0, .slice none 0 0]) ∧ Below W.heap.size W w') := CU0
      clear CU0
      unfold recCells at hX
      obtain ⟨i0, hi, hz⟩ := Option.map_eq_some_iff.1 infoRec
      simp only [Prod.mk.injEq] at hz
      obtain ⟨hz0, hz1, hz2⟩ := hz
      have hmix : Try.prog.follows .mixedOrders = true := by kernel_rfl
      have HX := Lib.hid hX
      have HU := Lib.hid hu
      have HROW := Lib.hid hrow
      have d2 := hu.cell 0
      have c0 := hX.cell 0
      have c1 := hX.cell 1
      have c2 := hX.cell 2
      have c3 := hX.cell 3
      have c4 := hX.cell 4
      have c5 := hX.cell 5
      have c6 := hX.cell 6
      have c7 := hX.cell 7
      have c8 := hX.cell 8
      have c9 := hX.cell 9
      have c10 := hX.cell 10
      simp only [List.getElem?_toArray, List.getElem?_cons_zero, List.getElem?_cons_succ] at d2 c0 c1 c2 c3 c4 c5 c6 c7 c8 c9 c10
      have hsz : X.drew.heap.size = X.heap.size := rfl
      clear hI hx hX hu hrow hrA d0 d1 f0 f1
      unfold recV recCells
      gi_wp2
      refine wpIn_region_any hmix ?_
      change wpAnyIn _ _ _ _ _ _ _ _ _ (World.drew _)
      refine ready_two (i := 0) (j := 1) (by kernel_rfl) rfl rfl ?_ ?_
      · gi_wp2_with fail
        refine ready_one (i := 1) (by kernel_rfl) rfl ?_
        gi_wp2_with fail
        refine ready_one (i := 2) (by kernel_rfl) rfl ?_
        gi_wp2_with (refine ⟨trivial, noDepth1 _, ?_⟩; gi_at_call 28; refine (CallsIn.inRound l' (callsIn_wide.2 (CU.out _))).mono ?_; rintro e w5 ⟨rfl, hb5'⟩; have hb5 : Below X.heap.size X w5 := (Below.refl X.heap.size X).drew.trans hb5'; clear hb5'; have u5 := HU.out.keep hb5 HU.out.lt; have d5 := u5.cell 0; simp only [List.getElem?_toArray, List.getElem?_cons_zero] at d5; have HB5 := Lib.hid hb5; have U5 := Lib.hid u5; have zz5 : w2.heap.size ≤ w5.heap.size := Nat.le_trans HI.out.z hb5.size; have zl5 : w.heap.size + 1 + 1 + 1 < w5.heap.size := Nat.lt_of_lt_of_le hl2 zz5; clear hb5 u5)
        refine ready_one (i := 3) (by kernel_rfl) rfl ?_
        gi_wp2_with fail
        refine ready_one (i := 4) (by kernel_rfl) rfl ?_
        (refine wpListIn_append_own _ rfl _ _ 33 rfl w2.heap.size 45 i0 _ 11 136 Try.underlying33 hi hz0 hz1 hz2 rfl (by decide) _ _ _ rfl ((own_below HROW.out HB5.out).alloc _) ⟨w5.heap.size, 0, none⟩ 1 1 (recL (undR r)) rfl rfl (World.news_of_block (Blk.new _ _ _)) (by simp [recL, recCells, Value.oneCell']) (by simp only [maxLen]; omega) (by omega) (by simp; omega) ?_; intro v' w6 hown' hgrow hnil; clear hnil; obtain ⟨g', cap', rfl⟩ := ownsRow_succ hown'; obtain ⟨hv1, hv2, hr2, hk2, hp2⟩ := appendedK (m := w.heap.size) U5.out (own_below HROW.out HB5.out) (by omega) hl2 zz5 hown' hgrow; have hc1 := hv1.cell 0; have hf1 := hv1.frozen 0; simp only [List.getElem?_toArray, List.getElem?_cons_zero] at hc1; have HV2 := Lib.hid (And.intro hv2 (And.intro hr2 (And.intro hk2 hp2))); clear hv1 hv2 hr2 hk2 hp2 hown' hgrow)
        gi_wp2_with fail
        refine ready_one (i := 5) (by kernel_rfl) rfl ?_
        gi_wp2_with fail
        refine wpAnyIn_done (by kernel_rfl) ?_ _
        gi_wp2
        obtain ⟨hv2, hr2, hk2, hp2⟩ := HV2.out
        have kp := (Kp.ofBelow (m := w.heap.size) (n := w2.heap.size) (b0 := w.heap.size + 1 + 1 + 1) (e := 45) HB5.out HI.out.below.size).trans hp2
        exact ⟨(keepsOthers_below HB5.out).trans hk2, kp, ⟨seen_ok HI.out.ok, HI.out.below.trans kp.old, Nat.le_trans zz5 hk2.size, kp.rest _ _ _ HI.out.r0 (by omega) (.inl (by omega)), kp.rest _ _ _ HI.out.r1 (by omega) (.inl (by omega)), _, hv2, by rw [List.map_append, List.length_append]; exact (recsN_snoc _ (undR r)).symm ▸ hr2⟩⟩
      · gi_wp2_with fail
        refine ready_two (i := 0) (j := 2) (by kernel_rfl) rfl rfl ?_ ?_
        · gi_wp2_with fail
          refine ready_one (i := 2) (by kernel_rfl) rfl ?_
          gi_wp2_with (refine ⟨trivial, noDepth1 _, ?_⟩; gi_at_call 28; refine (CallsIn.inRound l' (callsIn_wide.2 (CU.out _))).mono ?_; rintro e w5 ⟨rfl, hb5'⟩; have hb5 : Below X.heap.size X w5 := (Below.refl X.heap.size X).drew.trans hb5'; clear hb5'; have u5 := HU.out.keep hb5 HU.out.lt; have d5 := u5.cell 0; simp only [List.getElem?_toArray, List.getElem?_cons_zero] at d5; have HB5 := Lib.hid hb5; have U5 := Lib.hid u5; have zz5 : w2.heap.size ≤ w5.heap.size := Nat.le_trans HI.out.z hb5.size; have zl5 : w.heap.size + 1 + 1 + 1 < w5.heap.size := Nat.lt_of_lt_of_le hl2 zz5; clear hb5 u5)
          refine ready_one (i := 3) (by kernel_rfl) rfl ?_
          gi_wp2_with fail
          refine ready_one (i := 4) (by kernel_rfl) rfl ?_
          (refine wpListIn_append_own _ rfl _ _ 33 rfl w2.heap.size 45 i0 _ 11 136 Try.underlying33 hi hz0 hz1 hz2 rfl (by decide) _ _ _ rfl ((own_below HROW.out HB5.out).alloc _) ⟨w5.heap.size, 0, none⟩ 1 1 (recL (undR r)) rfl rfl (World.news_of_block (Blk.new _ _ _)) (by simp [recL, recCells, Value.oneCell']) (by simp only [maxLen]; omega) (by omega) (by simp; omega) ?_; intro v' w6 hown' hgrow hnil; clear hnil; obtain ⟨g', cap', rfl⟩ := ownsRow_succ hown'; obtain ⟨hv1, hv2, hr2, hk2, hp2⟩ := appendedK (m := w.heap.size) U5.out (own_below HROW.out HB5.out) (by omega) hl2 zz5 hown' hgrow; have hc1 := hv1.cell 0; have hf1 := hv1.frozen 0; simp only [List.getElem?_toArray, List.getElem?_cons_zero] at hc1; have HV2 := Lib.hid (And.intro hv2 (And.intro hr2 (And.intro hk2 hp2))); clear hv1 hv2 hr2 hk2 hp2 hown' hgrow)
          gi_wp2_with fail
          refine ready_one (i := 5) (by kernel_rfl) rfl ?_
          gi_wp2_with fail
          refine wpAnyIn_done (by kernel_rfl) ?_ _
          gi_wp2
          obtain ⟨hv2, hr2, hk2, hp2⟩ := HV2.out
          have kp := (Kp.ofBelow (m := w.heap.size) (n := w2.heap.size) (b0 := w.heap.size + 1 + 1 + 1) (e := 45) HB5.out HI.out.below.size).trans hp2
          exact ⟨(keepsOthers_below HB5.out).trans hk2, kp, ⟨seen_ok HI.out.ok, HI.out.below.trans kp.old, Nat.le_trans zz5 hk2.size, kp.rest _ _ _ HI.out.r0 (by omega) (.inl (by omega)), kp.rest _ _ _ HI.out.r1 (by omega) (.inl (by omega)), _, hv2, by rw [List.map_append, List.length_append]; exact (recsN_snoc _ (undR r)).symm ▸ hr2⟩⟩
        · gi_wp2_with (refine ⟨trivial, noDepth1 _, ?_⟩; gi_at_call 28; refine (CallsIn.inRound l' (callsIn_wide.2 (CU.out _))).mono ?_; rintro e w5 ⟨rfl, hb5'⟩; have hb5 : Below X.heap.size X w5 := (Below.refl X.heap.size X).drew.trans hb5'; clear hb5'; have u5 := HU.out.keep hb5 HU.out.lt; have d5 := u5.cell 0; simp only [List.getElem?_toArray, List.getElem?_cons_zero] at d5; have HB5 := Lib.hid hb5; have U5 := Lib.hid u5; have zz5 : w2.heap.size ≤ w5.heap.size := Nat.le_trans HI.out.z hb5.size; have zl5 : w.heap.size + 1 + 1 + 1 < w5.heap.size := Nat.lt_of_lt_of_le hl2 zz5; clear hb5 u5)
          refine ready_two (i := 0) (j := 3) (by kernel_rfl) rfl rfl ?_ ?_
          · gi_wp2_with fail
            refine ready_one (i := 3) (by kernel_rfl) rfl ?_
            gi_wp2_with fail
            refine ready_one (i := 4) (by kernel_rfl) rfl ?_
            (refine wpListIn_append_own _ rfl _ _ 33 rfl w2.heap.size 45 i0 _ 11 136 Try.underlying33 hi hz0 hz1 hz2 rfl (by decide) _ _ _ rfl ((own_below HROW.out HB5.out).alloc _) ⟨w5.heap.size, 0, none⟩ 1 1 (recL (undR r)) rfl rfl (World.news_of_block (Blk.new _ _ _)) (by simp [recL, recCells, Value.oneCell']) (by simp only [maxLen]; omega) (by omega) (by simp; omega) ?_; intro v' w6 hown' hgrow hnil; clear hnil; obtain ⟨g', cap', rfl⟩ := ownsRow_succ hown'; obtain ⟨hv1, hv2, hr2, hk2, hp2⟩ := appendedK (m := w.heap.size) U5.out (own_below HROW.out HB5.out) (by omega) hl2 zz5 hown' hgrow; have hc1 := hv1.cell 0; have hf1 := hv1.frozen 0; simp only [List.getElem?_toArray, List.getElem?_cons_zero] at hc1; have HV2 := Lib.hid (And.intro hv2 (And.intro hr2 (And.intro hk2 hp2))); clear hv1 hv2 hr2 hk2 hp2 hown' hgrow)
            gi_wp2_with fail
            refine ready_one (i := 5) (by kernel_rfl) rfl ?_
            gi_wp2_with fail
            refine wpAnyIn_done (by kernel_rfl) ?_ _
            gi_wp2
            obtain ⟨hv2, hr2, hk2, hp2⟩ := HV2.out
            have kp := (Kp.ofBelow (m := w.heap.size) (n := w2.heap.size) (b0 := w.heap.size + 1 + 1 + 1) (e := 45) HB5.out HI.out.below.size).trans hp2
            exact ⟨(keepsOthers_below HB5.out).trans hk2, kp, ⟨seen_ok HI.out.ok, HI.out.below.trans kp.old, Nat.le_trans zz5 hk2.size, kp.rest _ _ _ HI.out.r0 (by omega) (.inl (by omega)), kp.rest _ _ _ HI.out.r1 (by omega) (.inl (by omega)), _, hv2, by rw [List.map_append, List.length_append]; exact (recsN_snoc _ (undR r)).symm ▸ hr2⟩⟩
          · gi_wp2_with fail
            refine ready_one (i := 0) (by kernel_rfl) rfl ?_
            gi_wp2_with fail
            refine ready_one (i := 4) (by kernel_rfl) rfl ?_
            (refine wpListIn_append_own _ rfl _ _ 33 rfl w2.heap.size 45 i0 _ 11 136 Try.underlying33 hi hz0 hz1 hz2 rfl (by decide) _ _ _ rfl ((own_below HROW.out HB5.out).alloc _) ⟨w5.heap.size, 0, none⟩ 1 1 (recL (undR r)) rfl rfl (World.news_of_block (Blk.new _ _ _)) (by simp [recL, recCells, Value.oneCell']) (by simp only [maxLen]; omega) (by omega) (by simp; omega) ?_; intro v' w6 hown' hgrow hnil; clear hnil; obtain ⟨g', cap', rfl⟩ := ownsRow_succ hown'; obtain ⟨hv1, hv2, hr2, hk2, hp2⟩ := appendedK (m := w.heap.size) U5.out (own_below HROW.out HB5.out) (by omega) hl2 zz5 hown' hgrow; have hc1 := hv1.cell 0; have hf1 := hv1.frozen 0; simp only [List.getElem?_toArray, List.getElem?_cons_zero] at hc1; have HV2 := Lib.hid (And.intro hv2 (And.intro hr2 (And.intro hk2 hp2))); clear hv1 hv2 hr2 hk2 hp2 hown' hgrow)
            gi_wp2_with fail
            refine ready_one (i := 5) (by kernel_rfl) rfl ?_
            gi_wp2_with fail
            refine wpAnyIn_done (by kernel_rfl) ?_ _
            gi_wp2
            obtain ⟨hv2, hr2, hk2, hp2⟩ := HV2.out
            have kp := (Kp.ofBelow (m := w.heap.size) (n := w2.heap.size) (b0 := w.heap.size + 1 + 1 + 1) (e := 45) HB5.out HI.out.below.size).trans hp2
            exact ⟨(keepsOthers_below HB5.out).trans hk2, kp, ⟨seen_ok HI.out.ok, HI.out.below.trans kp.old, Nat.le_trans zz5 hk2.size, kp.rest _ _ _ HI.out.r0 (by omega) (.inl (by omega)), kp.rest _ _ _ HI.out.r1 (by omega) (.inl (by omega)), _, hv2, by rw [List.map_append, List.length_append]; exact (recsN_snoc _ (undR r)).symm ▸ hr2⟩⟩
    · have hk : ec = K := seq_err (x := (r, ec)) (PX.out.subset (by simp)) hec
      have hb : ((ec : Int) != 0) = true := by simp; omega
      subst hk
      have HEC := Lib.hid hec
      clear hec hI hx hX
      obtain ⟨ta, tn, tc, rfl⟩ := s1
      obtain ⟨pa, pn, pc, rfl⟩ := s2
      unfold recV recCells
      gi_wp2
      refine ⟨((KeepsOthers.setCell _ _ _).trans (KeepsOthers.setCell _ _ _)).from _, (HI.out.below.setCell (p := ⟨w.heap.size + 1, 0, none⟩) (by simp) _).setCell (p := ⟨w.heap.size + 1 + 1, 0, none⟩) (by simp; omega) _, (HI.out.r0.set 0 _).far (p := ⟨w.heap.size + 1 + 1, 0, none⟩) (by simp) _, (HI.out.r1.far (p := ⟨w.heap.size + 1, 0, none⟩) (by simp) _).set 0 _, HEC.out⟩
  case done =>
    intro D X hD hI hX
    have HI := Lib.hid hI
    obtain ⟨u, hu, hrow⟩ := hI.b
    have f0 := hI.r0.frozen 0
    have f1 := hI.r1.frozen 0
    have d0 := hI.r0.cell 0
    have d1 := hI.r1.cell 0
    have d2 := hu.cell 0
    simp only [List.getElem?_toArray, List.getElem?_cons_zero] at d0 d1 d2
    obtain ⟨ua, un, uc, rfl⟩ : ∃ a n c, u = .slice a n c := by
      rcases hrow.2 with ⟨rfl, _⟩ | ⟨g, cap, cur, rfl, _⟩
      · exact ⟨_, _, _, rfl⟩
      · exact ⟨_, _, _, rfl⟩
    have HROW := Lib.hid hrow
    clear hI hu hrow
    gi_wp2
    have hX2 := ((KeepsOthers.setCell X ⟨w.heap.size + 1, 0, none⟩ (.slice ua un uc)).trans (KeepsOthers.setCell _ ⟨w.heap.size + 1 + 1, 0, none⟩ (.int .i64 0))).same D _ hX rfl
    refine ⟨by simp, .inl ⟨_, _, rfl, run_takeDeferred hX2, ?_⟩⟩
    have e0 := seq_ok HI.out.ok
    have q0 := (HI.out.r0.set 0 (.slice ua un uc)).far (p := ⟨w.heap.size + 1 + 1, 0, none⟩) (by simp) (.int .i64 0)
    have q1 := (HI.out.r1.far (p := ⟨w.heap.size + 1, 0, none⟩) (by simp) (.slice ua un uc)).set 0 (.int .i64 0)
    have hb := (HI.out.below.setCell (p := ⟨w.heap.size + 1, 0, none⟩) (by simp) (.slice ua un uc)).setCell (p := ⟨w.heap.size + 1 + 1, 0, none⟩) (by simp; omega) (.int .i64 0)
    have hlt : ∀ b, (Value.slice ua un uc).ownBlock = some b → w2.heap.size ≤ b := fun b hb => (HROW.out.lt b hb).1
    have hr2 := ((HROW.out.kept (grownBy_setCell' X (w.heap.size + 1) (.slice ua un uc)) (.inr fun ej => by have := hlt _ ej; omega)).kept (grownBy_setCell' _ (w.heap.size + 1 + 1) (.int .i64 0)) (.inr fun ej => by have := hlt _ ej; omega))
    refine ⟨_, results_two rfl _ _ (w.heap.size + 1) (w.heap.size + 1 + 1) _ _ rfl rfl (load_one Try.underlying33 rfl (blk_put q0 hX2 rfl)) (load_one Try.underlying26 rfl (blk_put q1 hX2 rfl)), ?_⟩
    have hN := HA.out e0
    have hr3 := ownsRow_putObj hr2 (.deferred none) hX2 rfl
    refine ⟨.slice ua un uc, w2.heap.size, ?_, hm2, ?_, hb.trans (belowK_b (w := w) (Nat.le_refl _) _ D _ _ (by omega) hX2 rfl rfl)⟩
    · rw [e0]; rfl
    · rw [← hN]
      subst e0
      have e : (okA A ++ errT 0).map (fun x => undR x.1) = A.map undR := by unfold okA errT; simp
      have e2 : (okA A ++ errT 0).length = (A.map undR).length := by unfold okA errT; simp
      rw [e, e2] at hr3
      exact hr3
  case stop =>
    intro D pre X hD hpre hI hX
    obtain ⟨hb, q0, q1, hk⟩ := hI
    have Q := Lib.hid (And.intro q0 q1)
    have HK := Lib.hid hk
    clear q0 q1 hk
    gi_wp2
    refine ⟨by simp, .inl ⟨_, _, rfl, run_takeDeferred hX, ?_⟩⟩
    refine ⟨_, results_two rfl _ _ (w.heap.size + 1) (w.heap.size + 1 + 1) _ _ rfl rfl (load_one Try.underlying33 rfl (blk_put Q.out.1 hX rfl)) (load_one Try.underlying26 rfl (blk_put Q.out.2 hX rfl)), ?_⟩
    refine ⟨_, w.heap.size, rfl, Nat.le_refl _, ?_, hb.trans (belowK_b (w := w) (Nat.le_refl _) _ D _ _ (by omega) hX rfl rfl)⟩
    rw [HA0.out HK.out]
    exact World.ownsRow_nil _ _ _ 11
end Go.Proofs.Ytecalnglidjmgaa
