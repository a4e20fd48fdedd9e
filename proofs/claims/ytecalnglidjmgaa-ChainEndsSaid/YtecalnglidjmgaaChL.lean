/- Package chain: Chain. -/
import Derived.Test.YtecalnglidjmgaaChK
namespace Go.Proofs.Ytecalnglidjmgaa
open Go.RowKit Go.Shelf

attribute [local go_sem] Oper.semAt_some
def errE (k : Nat) : List Em := if k = 0 then [] else [(0, Rc.nil, k)]
/-- What Chain tells, of what comes in turn. -/
theorem chain_seq (l : List En) (t p : Int) : ∃ A, fol l t false (stopW fun _ => true) p = A ++ errE (Ch.chain l t p).2 ∧ (∀ x ∈ A, x.2.2 = 0) ∧ ((Ch.chain l t p).2 = 0 → A.map Prod.fst = (Ch.chain l t p).1) ∧ ((Ch.chain l t p).2 ≠ 0 → (Ch.chain l t p).1 = []) ∧ A.length ≤ l.length := by
  rw [stop0]
  unfold fol
  by_cases hr : Ch.Rises l
  · rw [if_pos hr]
    unfold fol0
    have hz : ∀ x ∈ (Ch.follow l t false Ch.st0 p).1.map (fun x => ((x.1, x.2, 0) : Em)), x.2.2 = 0 := fun x hx => by obtain ⟨y, _, rfl⟩ := List.mem_map.1 hx; rfl
    have hlen : ((Ch.follow l t false Ch.st0 p).1.map (fun x => ((x.1, x.2, 0) : Em))).length ≤ l.length := by
      rw [List.length_map]
      exact Nat.le_trans (Ch.follow_len l t false _ p) (Ch.rank_le l p)
    by_cases h0 : (Ch.follow l t false Ch.st0 p).2 = 0
    · have e : Ch.chain l t p = ((Ch.follow l t false Ch.st0 p).1.map Prod.fst, 0) := by unfold Ch.chain; simp [hr, h0]
      rw [e, h0]
      exact ⟨_, rfl, hz, fun _ => by rw [List.map_map]; rfl, fun h => absurd rfl h, hlen⟩
    · have e : Ch.chain l t p = ([], (Ch.follow l t false Ch.st0 p).2) := by unfold Ch.chain; simp [hr, h0]
      rw [e]
      exact ⟨_, rfl, hz, fun h => absurd h h0, fun _ => rfl, hlen⟩
  · rw [if_neg hr]
    have e : Ch.chain l t p = ([], 3) := by unfold Ch.chain; simp [hr]
    rw [e]
    exact ⟨[], rfl, nofun, fun h => by simp at h, fun _ => rfl, Nat.zero_le _⟩
theorem errE_mem {k : Nat} {x : Em} (h : x ∈ errE k) : x.2.2 = k ∧ k ≠ 0 := by
  unfold errE at h
  by_cases hk : k = 0
  · rw [if_pos hk] at h; cases h
  · rw [if_neg hk] at h
    simp at h
    subst h
    exact ⟨rfl, hk⟩
theorem seqE_err {A : List Em} {k : Nat} {x : Em} (hA : ∀ x ∈ A, x.2.2 = 0) (h : x ∈ A ++ errE k) (hx : x.2.2 ≠ 0) : x.2.2 = k := by
  rcases List.mem_append.1 h with h | h
  · exact absurd (hA x h) hx
  · exact (errE_mem h).1
theorem seqE_ok {A : List Em} {k : Nat} (h : ∀ x ∈ A ++ errE k, x.2.2 = 0) : k = 0 := by
  by_cases hk : k = 0
  · exact hk
  · have := h (0, Rc.nil, k) (List.mem_append.2 (.inr (by unfold errE; rw [if_neg hk]; exact .head _)))
    exact absurd this hk
theorem seenE_ok {pre : List Em} {x : Em} (h : ∀ y ∈ pre, y.2.2 = 0) (hx : x.2.2 = 0) : ∀ y ∈ pre ++ [x], y.2.2 = 0 := fun y hy => by
  rcases List.mem_append.1 hy with hy | hy
  · exact h y hy
  · rw [List.mem_singleton.1 hy]; exact hx
def placesV (l : List Int) : List Value := l.map fun x => .int .i64 x
theorem placesV_snoc (l : List Int) (x : Int) : placesV (l ++ [x]) = placesV l ++ [.int .i64 x] := by simp [placesV]

/-- Chain's own cells between two rounds. -/
structure SeesC (w : World) (n : Nat) (pre : List Em) (X : World) : Prop where
  ok : ∀ x ∈ pre, x.2.2 = 0
  below : Below w.heap.size w X
  z : n ≤ X.heap.size
  r0 : Blk X w.heap.size 25 #[.slice none 0 0]
  r1 : Blk X (w.heap.size + 1) 26 #[.int .i64 0]
  b : ∃ u, Blk X (w.heap.size + 1 + 1) 25 #[u] ∧ X.ownsRow n 3 1 u pre.length (placesV (pre.map Prod.fst))
theorem own_seesC {w : World} {n B : Nat} (hB : w.heap.size ≤ B) : OwnFrom B (SeesC w n) := fun _ A C row hs hg hr =>
  ⟨hs.ok, ownFrom_below (β := Unit) (Nat.le_refl _) hB () A C row hs.below hg hr, Nat.le_trans hs.z hg.size, ownFrom_cells _ _ _ _ _ () A C row hs.r0 hg hr, ownFrom_cells _ _ _ _ _ () A C row hs.r1 hg hr,
    let ⟨u, h1, h2⟩ := hs.b; ⟨u, ownFrom_cells _ _ _ _ _ () A C row h1 hg hr, ownRow_turn h2 hg hr⟩⟩
theorem infoInt : (Try.prog.info? 3).map (fun i => (i.zero, i.size, i.bytes)) = some (some (.int .i64 0), 1, 8) := by kernel_rfl

/-- What Chain hands back. -/
def ChainR (w w' : World) (U : List Int × Nat) (e : Ending) : Prop := ∃ (u : Value) (B : Nat), e = .returned (.tuple #[u, .int .i64 U.2]) ∧ w.heap.size ≤ B ∧ w'.ownsRow B 3 1 u U.1.length (placesV U.1) ∧ Below w.heap.size w w'

set_option maxRecDepth 100000 in
set_option maxHeartbeats 8000000 in
theorem chChain {w : World} {v : Value} {l : List En} (hv : IsEnts w v l) (hn : l.length ≤ 1000) (t p : Int) :
    Calls Try.prog 10 #[v, .int .i64 t, .int .i64 p] w fun e w' => ChainR w w' (Ch.chain l t p) e := by
  have HV := Lib.hid hv
  have SV := Lib.hid (show SlV v from by obtain ⟨a, c, rfl, _⟩ := hv; exact ⟨_, _, _, rfl⟩)
  obtain ⟨A, hS, hAz, hA, hA0, hAl⟩ := chain_seq l t p
  obtain ⟨N, hN⟩ : ∃ N, N = (Ch.chain l t p).1 := ⟨_, rfl⟩
  obtain ⟨K, hK⟩ : ∃ K, K = (Ch.chain l t p).2 := ⟨_, rfl⟩
  rw [← hN, ← hK] at hA hA0
  rw [← hK] at hS
  have eU : Ch.chain l t p = (N, K) := by rw [hN, hK]
  rw [eU]
  unfold ChainR
  have HS := Lib.hid hS
  have HA := Lib.hid hA
  have HA0 := Lib.hid hA0
  have HAZ := Lib.hid hAz
  clear hS hA hA0 hN hK hv eU hAz
  have r0 := ((Blk.new w 25 #[.slice none 0 0]).alloc (.cells #[.int .i64 0] 26)).alloc (.cells #[.slice none 0 0] 25)
  have r1 := (Blk.new (w.alloc (.cells #[.slice none 0 0] 25)) 26 #[.int .i64 0]).alloc (.cells #[.slice none 0 0] 25)
  have b1 := Blk.new ((w.alloc (.cells #[.slice none 0 0] 25)).alloc (.cells #[.int .i64 0] 26)) 25 #[.slice none 0 0]
  have hB := (((Below.refl w.heap.size w).alloc (Nat.le_refl _) (.cells #[.slice none 0 0] 25)).alloc (by simp) (.cells #[.int .i64 0] 26)).alloc (by simp; omega) (.cells #[.slice none 0 0] 25)
  simp only [World.size_alloc] at r1 b1
  obtain ⟨w1, hw1⟩ : ∃ w1, w1 = ((w.alloc (.cells #[.slice none 0 0] 25)).alloc (.cells #[.int .i64 0] 26)).alloc (.cells #[.slice none 0 0] 25) := ⟨_, rfl⟩
  rw [← hw1] at r0 r1 b1 hB
  have HW1 := Lib.hid hw1
  have R0 := Lib.hid r0
  have R1 := Lib.hid r1
  have B1 := Lib.hid b1
  have HB := Lib.hid hB
  have C := Lib.hid (chFollow v SV.out t p 23 24 #[] w1)
  clear hw1 r0 r1 b1 hB
  obtain ⟨dk⟩ : Nonempty Nat := ⟨0⟩
  refine (callsIn_wide (n := dk)).1 ?_
  refine callsIn_of_wp_marks Try.func10 rfl trivial ?_ rfl
  simp only [Try.ntmps10, List.size_toArray, List.length_cons, List.length_nil, Nat.reduceAdd, Nat.reduceSub, Array.replicate_succ, Array.replicate_zero, List.push_toArray, List.append_toArray, List.nil_append, List.cons_append]
  have hl1 : w.heap.size + 1 + 1 < w1.heap.size := B1.out.lt
  gi_wp2_with (refine ⟨trivial, noDepth1 _, ?_⟩; gi_at_call 22; rw [← HW1.out]; refine (callsIn_wide.2 C.out).mono ?_; rintro e w2 ⟨rfl, hb2, hz2, k1, k2, k3, k4, k5⟩; clear C)
  have hm2 : w.heap.size ≤ w2.heap.size := Nat.le_trans HB.out.size hb2.size
  have hl2 : w.heap.size + 1 + 1 < w2.heap.size := Nat.lt_of_lt_of_le hl1 hb2.size
  have S1 := chFollow1 (w0 := w) (n := w2.heap.size) (b0 := w.heap.size + 1 + 1) (e := 3) (dk - 1) (⟨HV.out, HB.out.trans (hb2.mono HB.out.size), ⟨k1, by omega, .inl (by omega)⟩, ⟨k3, by omega, .inl (by omega)⟩, ⟨k4, by omega, .inl (by omega)⟩, ⟨k2, by omega, .inl (by omega)⟩, ⟨k5, by omega, .inl (by omega)⟩, trivial⟩ : Sees w v l t p 23 24 #[] (fun _ => True) w2.heap.size (w.heap.size + 1 + 1) 3 w1.heap.size (w1.heap.size + 2) (w1.heap.size + 3) (w1.heap.size + 1) (w1.heap.size + 4) w2) (wantsAny _ _ _ _) nextsWritten hn (by decide) hl2
  rw [HS.out] at S1
  refine wpIn_gives (F := Fence.wide) rfl (noDepth1 _) (gf := 30) (lb := #[.pointer (some ⟨w1.heap.size, 0, none⟩), .pointer (some ⟨w1.heap.size + 2, 0, none⟩), .pointer (some ⟨w1.heap.size + 3, 0, none⟩), .pointer (some ⟨w1.heap.size + 1, 0, none⟩), .pointer (some ⟨w1.heap.size + 4, 0, none⟩)]) rfl trivial
    (enters_of Try.func30 (by kernel_rfl) rfl) S1 (fun h k => h.trans k) (fun W l o o' hl hk ho => Kp.put o' (by omega) hk ho) (Below.refl _ _) (fun x ys h => by obtain ⟨_, _, _, _, rfl⟩ := h; rfl)
    (fun pre X => SeesC w w2.heap.size pre X) (fun pre X => Below w.heap.size w X ∧ Blk X w.heap.size 25 #[.slice none 0 0] ∧ Blk X (w.heap.size + 1) 26 #[.int .i64 K] ∧ K ≠ 0)
    (fun x a' pre X => SeesC w w2.heap.size pre X ∧ ∃ B vt vp, SlV vt ∧ SlV vp ∧ Blk X B 47 (entCells x.1 x.2.1 vt vp) ∧
      a' = { tmps := #[v, .int .i64 t, .int .i64 p, undef, undef, undef, .pointer (some ⟨w.heap.size, 0, none⟩), .pointer (some ⟨w.heap.size + 1, 0, none⟩), .pointer (some ⟨w.heap.size + 1 + 1, 0, none⟩), .pointer (some ⟨B, 0, none⟩), .int .i64 x.2.2, v, .int .i64 t, .int .i64 p,
        .func (.func 30) #[] #[.pointer (some ⟨w1.heap.size, 0, none⟩), .pointer (some ⟨w1.heap.size + 2, 0, none⟩), .pointer (some ⟨w1.heap.size + 3, 0, none⟩), .pointer (some ⟨w1.heap.size + 1, 0, none⟩), .pointer (some ⟨w1.heap.size + 4, 0, none⟩)],
        entV x.1 x.2.1 vt vp, .int .i64 x.2.2, undef, undef, undef, undef, undef, undef, undef, undef, undef], defers := [] })
    ?hI ?hIx ?hMid ?h0 ?assign ?body ?done ?stop
  case hI => exact own_seesC hm2
  case hIx =>
    intro s A B row hs hg hr
    exact ⟨ownFrom_below (β := Unit) (Nat.le_refl _) hm2 () A B row hs.1 hg hr, ownFrom_cells _ _ _ _ _ () A B row hs.2.1 hg hr, ownFrom_cells _ _ _ _ _ () A B row hs.2.2.1 hg hr, hs.2.2.2⟩
  case hMid =>
    intro x a' s A B row hs hg hr
    obtain ⟨h1, X, vt, vp, s1, s2, hx, e⟩ := hs
    exact ⟨own_seesC hm2 s A B row h1 hg hr, X, vt, vp, s1, s2, ownFrom_cells _ _ _ _ _ () A B row hx hg hr, e⟩
  case h0 =>
    exact ⟨nofun, HB.out.trans (hb2.mono HB.out.size), Nat.le_refl _, R0.out.keep hb2 R0.out.lt, R1.out.keep hb2 R1.out.lt, _, B1.out.keep hb2 B1.out.lt, World.ownsRow_nil w2 _ _ 1⟩
  case assign =>
    rintro l' pre x ys X hx ⟨vt, vp, s1, s2, rfl⟩ hI
    have HI := Lib.hid hI
    obtain ⟨ta, tn, tc, rfl⟩ := s1
    obtain ⟨pa, pn, pc, rfl⟩ := s2
    unfold entV entCells
    clear hI
    gi_wp2
    have hb := (Below.refl X.heap.size X).alloc (Nat.le_refl _) (.cells (entCells x.1 x.2.1 (.slice ta tn tc) (.slice pa pn pc)) 47)
    exact ⟨KeepsOthers.alloc _ _, Kp.ofBelow hb HI.out.below.size, (own_seesC (Nat.le_refl _) _ _ _ none HI.out ⟨hb.os, hb.tape, hb.output, hb.size, fun k hk _ => hb.block k hk⟩ fun r e => by cases e),
      X.heap.size, .slice ta tn tc, .slice pa pn pc, ⟨_, _, _, rfl⟩, ⟨_, _, _, rfl⟩, Blk.new X _ _, rfl⟩
  case body =>
    rintro l' pre ⟨q, r, ec⟩ a' X hx ⟨hI, B, vt, vp, s1, s2, hX, rfl⟩
    have HI := Lib.hid hI
    have PX := Lib.hid hx
    have f0 := hI.r0.frozen 0
    have f1 := hI.r1.frozen 0
    have d0 := hI.r0.cell 0
    have d1 := hI.r1.cell 0
    simp only [List.getElem?_toArray, List.getElem?_cons_zero] at d0 d1
    have hle : pre.length < 1001 := by
      have h1 := (List.IsPrefix.length_le hx)
      rw [List.length_append, List.length_append] at h1
      have h2 : (errE K).length ≤ 1 := by unfold errE; split <;> simp
      simp at h1
      omega
    have e0 := hX.cell 0
    unfold entCells at e0
    simp only [List.getElem?_toArray, List.getElem?_cons_zero] at e0
    obtain ⟨ta, tn, tc, rfl⟩ := s1
    obtain ⟨pa, pn, pc, rfl⟩ := s2
    by_cases hec : ec = 0
    · subst hec
      obtain ⟨u, hu, hrow⟩ := hI.b
      obtain ⟨i0, hi, hz⟩ := Option.map_eq_some_iff.1 infoInt
      simp only [Prod.mk.injEq] at hz
      obtain ⟨hz0, hz1, hz2⟩ := hz
      have HU := Lib.hid hu
      have HROW := Lib.hid hrow
      have d2 := hu.cell 0
      have hub := hu.lt
      simp only [List.getElem?_toArray, List.getElem?_cons_zero] at d2
      have zX : w2.heap.size ≤ X.heap.size := hI.z
      clear hI hx hX hu hrow d0 d1 f0 f1
      unfold entV entCells
      gi_wp2_with (gi_at_builtin; refine wpListIn_append_own _ rfl _ _ 25 rfl w2.heap.size 3 i0 _ 1 8 Try.underlying25 hi hz0 hz1 hz2 rfl (by decide) _ _ _ rfl (HROW.out.alloc _) ⟨X.heap.size, 0, none⟩ 1 1 [.int .i64 q] rfl rfl (World.news_of_block (Blk.new _ _ _)) (by simp [Value.oneCell']) (by simp only [maxLen]; omega) (by omega) (by simp; omega) ?_; intro v' w6 hown' hgrow hnil; clear hnil; obtain ⟨g', cap', rfl⟩ := ownsRow_succ hown'; obtain ⟨hv1, hv2, hr2, hk2, hp2⟩ := appendedK (m := w.heap.size) HU.out HROW.out (by omega) hl2 zX hown' hgrow; have hc1 := hv1.cell 0; have hf1 := hv1.frozen 0; simp only [List.getElem?_toArray, List.getElem?_cons_zero] at hc1; have HV2 := Lib.hid (And.intro hv2 (And.intro hr2 (And.intro hk2 hp2))); clear hv1 hv2 hr2 hk2 hp2 hown' hgrow)
      obtain ⟨hv2, hr2, hk2, kp⟩ := HV2.out
      exact ⟨hk2, kp, ⟨seenE_ok (x := (q, r, 0)) HI.out.ok rfl, HI.out.below.trans kp.old, Nat.le_trans zX hk2.size, kp.rest _ _ _ HI.out.r0 (by omega) (.inl (by omega)), kp.rest _ _ _ HI.out.r1 (by omega) (.inl (by omega)), _, hv2, by rw [List.map_append, List.length_append]; exact (placesV_snoc _ q).symm ▸ hr2⟩⟩
    · have hk : ec = K := seqE_err (x := (q, r, ec)) HAZ.out (PX.out.subset (by simp)) hec
      have hb : ((ec : Int) != 0) = true := by simp; omega
      subst hk
      have HEC := Lib.hid hec
      clear hec hI hx hX
      unfold entV entCells
      gi_wp2
      refine ⟨((KeepsOthers.setCell _ _ _).trans (KeepsOthers.setCell _ _ _)).from _, (HI.out.below.setCell (p := ⟨w.heap.size, 0, none⟩) (by simp) _).setCell (p := ⟨w.heap.size + 1, 0, none⟩) (by simp) _, (HI.out.r0.set 0 _).far (p := ⟨w.heap.size + 1, 0, none⟩) (by simp) _, (HI.out.r1.far (p := ⟨w.heap.size, 0, none⟩) (by simp) _).set 0 _, HEC.out⟩
  case done =>
    intro D X hD hI hX
    have HI := Lib.hid hI
    obtain ⟨u, hu, hrow⟩ := hI.b
    have f0 := hI.r0.frozen 0
    have f1 := hI.r1.frozen 0
    have d0 := hI.r0.cell 0
    have d1 := hI.r1.cell 0
    have d2 := hu.cell 0
    simp only [List.getElem?_toArray, List.getElem?_cons_zero] at d0 d1 d2
    obtain ⟨ua, un, uc, rfl⟩ : ∃ a n c, u = .slice a n c := by
      rcases hrow.2 with ⟨rfl, _⟩ | ⟨g, cap, cur, rfl, _⟩
      · exact ⟨_, _, _, rfl⟩
      · exact ⟨_, _, _, rfl⟩
    have HROW := Lib.hid hrow
    clear hI hu hrow
    gi_wp2
    have hX2 := ((KeepsOthers.setCell X ⟨w.heap.size, 0, none⟩ (.slice ua un uc)).trans (KeepsOthers.setCell _ ⟨w.heap.size + 1, 0, none⟩ (.int .i64 0))).same D _ hX rfl
    refine ⟨by simp, .inl ⟨_, _, rfl, run_takeDeferred hX2, ?_⟩⟩
    have e0 := seqE_ok HI.out.ok
    have q0 := (HI.out.r0.set 0 (.slice ua un uc)).far (p := ⟨w.heap.size + 1, 0, none⟩) (by simp) (.int .i64 0)
    have q1 := (HI.out.r1.far (p := ⟨w.heap.size, 0, none⟩) (by simp) (.slice ua un uc)).set 0 (.int .i64 0)
    have hb := (HI.out.below.setCell (p := ⟨w.heap.size, 0, none⟩) (by simp) (.slice ua un uc)).setCell (p := ⟨w.heap.size + 1, 0, none⟩) (by simp) (.int .i64 0)
    have hlt : ∀ b, (Value.slice ua un uc).ownBlock = some b → w2.heap.size ≤ b := fun b hb => (HROW.out.lt b hb).1
    have hr2 := ((HROW.out.kept (grownBy_setCell' X w.heap.size (.slice ua un uc)) (.inr fun ej => by have := hlt _ ej; omega)).kept (grownBy_setCell' _ (w.heap.size + 1) (.int .i64 0)) (.inr fun ej => by have := hlt _ ej; omega))
    refine ⟨_, results_two rfl _ _ w.heap.size (w.heap.size + 1) _ _ rfl rfl (load_one Try.underlying25 rfl (blk_put q0 hX2 rfl)) (load_one Try.underlying26 rfl (blk_put q1 hX2 rfl)), ?_⟩
    have hN := HA.out e0
    have hr3 := ownsRow_putObj hr2 (.deferred none) hX2 rfl
    refine ⟨.slice ua un uc, w2.heap.size, ?_, hm2, ?_, hb.trans (belowK_b (w := w) (Nat.le_refl _) _ D _ _ (by omega) hX2 rfl rfl)⟩
    · rw [e0]; rfl
    · rw [← hN]
      subst e0
      have e : (A ++ errE 0).map Prod.fst = A.map Prod.fst := by unfold errE; simp
      have e2 : (A ++ errE 0).length = (A.map Prod.fst).length := by unfold errE; simp
      rw [e, e2] at hr3
      exact hr3
  case stop =>
    intro D pre X hD hpre hI hX
    obtain ⟨hb, q0, q1, hk⟩ := hI
    have Q := Lib.hid (And.intro q0 q1)
    have HK := Lib.hid hk
    clear q0 q1 hk
    gi_wp2
    refine ⟨by simp, .inl ⟨_, _, rfl, run_takeDeferred hX, ?_⟩⟩
    refine ⟨_, results_two rfl _ _ w.heap.size (w.heap.size + 1) _ _ rfl rfl (load_one Try.underlying25 rfl (blk_put Q.out.1 hX rfl)) (load_one Try.underlying26 rfl (blk_put Q.out.2 hX rfl)), ?_⟩
    refine ⟨_, w.heap.size, rfl, Nat.le_refl _, ?_, hb.trans (belowK_b (w := w) (Nat.le_refl _) _ D _ _ (by omega) hX rfl rfl)⟩
    rw [HA0.out HK.out]
    exact World.ownsRow_nil _ _ _ 1
end Go.Proofs.Ytecalnglidjmgaa
