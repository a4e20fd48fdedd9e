/- Package chain: what comes in turn, as a list; Left. -/
import Derived.Test.YtecalnglidjmgaaChH
namespace Go.Proofs.Ytecalnglidjmgaa
open Go.RowKit Go.Shelf

theorem stop0 : stopW (fun _ => true) = Ch.st0 := by funext p; unfold stopW Ch.st0; simp
theorem stopS (s : Int) : stopW (fun q => decide (s < q)) = Ch.stS s := by
  funext p
  unfold stopW Ch.stS
  congr 1
  by_cases h : p ≤ s
  · have h2 : ¬ s < p := by omega
    simp [h]
  · have h2 : s < p := by omega
    simp [h, h2]
/-- The error, if there is one. -/
def errT (k : Nat) : List Sm := if k = 0 then [] else [(Rc.nil, k)]
def okA (A : List Rc) : List Sm := A.map fun r => (r, 0)
theorem outOf_fol (l : List En) (t : Int) (stop : Int → Bool) (p : Int) :
    outOf (fol l t true stop p) = if Ch.Rises l then okA ((Ch.upd (Ch.follow l t true stop p).1).map Prod.snd) ++ errT (Ch.follow l t true stop p).2 else errT 3 := by
  unfold fol
  by_cases hr : Ch.Rises l
  · rw [if_pos hr, if_pos hr]
    unfold fol0 outOf okA errT
    rw [List.filter_append, List.map_append]
    congr 1
    · rw [List.filter_map, List.map_map, List.map_map]
      have hf := Ch.follow_mem l t true stop p
      unfold Ch.upd
      have e : (Ch.follow l t true stop p).1.filter ((fun x : Em => !(x.2.2 == 0 && x.2.1.kind == 2)) ∘ fun x => (x.1, x.2, 0)) = (Ch.follow l t true stop p).1.filter (fun x => x.2.kind == 1) := by
        refine List.filter_congr fun x hx => ?_
        have hb := (hf x hx).2.2
        unfold Ch.Bad at hb
        show (!((0 : Nat) == 0 && x.2.kind == 2)) = (x.2.kind == 1)
        by_cases h1 : x.2.kind = 1
        · simp [h1]
        · have h2 : x.2.kind = 2 := by omega
          simp [h2]
      rw [e]
      rfl
    · by_cases h0 : (Ch.follow l t true stop p).2 = 0
      · rw [if_pos h0, if_pos h0]; rfl
      · rw [if_neg h0, if_neg h0]
        have : (!((Ch.follow l t true stop p).2 == 0 && Rc.nil.kind == 2)) = true := by simp [h0]
        rw [List.filter_cons_of_pos (p := fun x : Em => !(x.2.2 == 0 && x.2.1.kind == 2)) this]
        rfl
  · rw [if_neg hr, if_neg hr]
    rfl
theorem errT_mem {k : Nat} {x : Sm} (h : x ∈ errT k) : x.2 = k ∧ k ≠ 0 := by
  unfold errT at h
  by_cases hk : k = 0
  · rw [if_pos hk] at h; cases h
  · rw [if_neg hk] at h
    simp at h
    subst h
    exact ⟨rfl, hk⟩
/-- In a list that ends in an error, what isn't an error. -/
theorem seq_err {A : List Rc} {k : Nat} {x : Sm} (h : x ∈ okA A ++ errT k) (hx : x.2 ≠ 0) : x.2 = k := by
  rcases List.mem_append.1 h with h | h
  · unfold okA at h
    obtain ⟨r, _, rfl⟩ := List.mem_map.1 h
    exact absurd rfl hx
  · exact (errT_mem h).1
theorem seq_ok {A : List Rc} {k : Nat} (h : ∀ x ∈ okA A ++ errT k, x.2 = 0) : k = 0 := by
  by_cases hk : k = 0
  · exact hk
  · have := h (Rc.nil, k) (List.mem_append.2 (.inr (by unfold errT; rw [if_neg hk]; exact .head _)))
    exact absurd this hk
theorem okA_len (A : List Rc) : (okA A).length = A.length := List.length_map _

/-- What Left, Stand tell, of what comes in turn. -/
theorem stand_seq (l : List En) (t p : Int) : ∃ A, outOf (fol l t true (stopW fun _ => true) p) = okA A ++ errT (Ch.stand l t p).2 ∧ ((Ch.stand l t p).2 = 0 → A.length = (Ch.stand l t p).1.length) ∧ ((Ch.stand l t p).2 ≠ 0 → (Ch.stand l t p).1.length = 0) ∧ A.length ≤ l.length := by
  rw [stop0, outOf_fol]
  by_cases hr : Ch.Rises l
  · rw [if_pos hr]
    have hlen : ((Ch.upd (Ch.follow l t true Ch.st0 p).1).map Prod.snd).length ≤ l.length := by
      rw [List.length_map]
      exact Nat.le_trans (List.length_filter_le _ _) (Nat.le_trans (Ch.follow_len l t true Ch.st0 p) (Ch.rank_le l p))
    by_cases h0 : (Ch.follow l t true Ch.st0 p).2 = 0
    · rw [Ch.stand_mk hr h0, h0]
      exact ⟨_, rfl, fun _ => by simp, fun h => absurd rfl h, hlen⟩
    · have e : Ch.stand l t p = ([], (Ch.follow l t true Ch.st0 p).2) := by unfold Ch.stand; simp [hr, h0]
      rw [e]
      exact ⟨_, rfl, fun h => absurd h h0, fun _ => rfl, hlen⟩
  · rw [if_neg hr]
    have e : Ch.stand l t p = ([], 3) := by unfold Ch.stand; simp [hr]
    rw [e]
    exact ⟨[], rfl, fun h => by simp at h, fun _ => rfl, Nat.zero_le _⟩

theorem wantsAny (m n b0 : Nat) (e : TypeId) : Wants m n b0 e 23 #[] (fun _ => true) (fun _ => True) :=
  ⟨fun _ _ _ _ => trivial, fun _ _ _ _ => trivial, fun W q _ => (chAnywhere q W), fun args W => enters_of Try.func23 (by kernel_rfl) rfl args W⟩
theorem otherRec : Other 45 := by unfold Other; decide
theorem kpSet {m n b0 : Nat} {e : TypeId} (W : World) (v : Value) (hm : m ≤ b0) : Kp m n b0 e W (W.setCell ⟨b0, 0, none⟩ v) :=
  ⟨(Below.refl m W).setCell (p := ⟨b0, 0, none⟩) hm _, fun _ _ _ hb hne _ => hb.far (p := ⟨b0, 0, none⟩) hne v⟩
/-- Two results, each in a cell. -/
theorem results_two {P : Program} {fn : Func} {p q : Tmp} {ty tz : TypeId} (h : fn.results = #[.cell p ty, .cell q tz]) (tmps : Array Value) (w : World) (g g2 : Nat) (u v : Value)
    (hp : tmps.getD p undef = .pointer (some ⟨g, 0, none⟩)) (hq : tmps.getD q undef = .pointer (some ⟨g2, 0, none⟩)) (h1 : (loadVar ty ⟨g, 0, none⟩).run P w = .ok u w) (h2 : (loadVar tz ⟨g2, 0, none⟩).run P w = .ok v w) :
    (results fn tmps).run P w = .ok (.tuple #[u, v]) w := by
  have hp' : tmps[p]?.getD undef = .pointer (some ⟨g, 0, none⟩) := by simpa using hp
  have hq' : tmps[q]?.getD undef = .pointer (some ⟨g2, 0, none⟩) := by simpa using hq
  simp [results, h, hp', hq', asAddr, h1, h2]
theorem load_one {P : Program} {ty : TypeId} {d : TypeDesc} {w : World} {g : Nat} {t : TypeId} {v : Value} (hu : P.underlying ty = some d) (hd : (match d with | .struct _ | .array _ _ => false | _ => true) = true) (hg : Blk w g t #[v]) : (loadVar ty ⟨g, 0, none⟩).run P w = .ok v w := by
  have hv := hg.cell 0
  simp only [List.getElem?_toArray, List.getElem?_cons_zero] at hv
  cases d <;> first | (cases hd; done) | simp [loadVar, isAgg, run_underlying hu, go_sem, hv]

attribute [local go_sem] Oper.semAt_some

theorem blk_put {w : World} {g t D : Nat} {cs : Array Value} {o o' : Obj} (h : Blk w g t cs) (hD : w.heap[D]? = some o) (ho : o.isCells = false) : Blk (w.putObj D o') g t cs := by
  have hne : g ≠ D := fun e => by subst e; rw [show w.heap[g]? = _ from h] at hD; cases hD; cases ho
  exact (World.putObj_heap_other hne).trans h
/-- Left's own cells between two rounds. -/
structure SeesL (w : World) (pre : List Sm) (X : World) : Prop where
  ok : ∀ x ∈ pre, x.2 = 0
  below : Below w.heap.size w X
  r0 : Blk X w.heap.size 3 #[.int .i64 0]
  r1 : Blk X (w.heap.size + 1) 26 #[.int .i64 0]
  b : Blk X (w.heap.size + 1 + 1) 3 #[.int .i64 pre.length]

theorem own_seesL {w : World} {B : Nat} (hB : w.heap.size ≤ B) : OwnFrom B (SeesL w) := fun _ A C row hs hg hr =>
  ⟨hs.ok, ownFrom_below (β := Unit) (Nat.le_refl _) hB () A C row hs.below hg hr, ownFrom_cells _ _ _ _ _ () A C row hs.r0 hg hr, ownFrom_cells _ _ _ _ _ () A C row hs.r1 hg hr, ownFrom_cells _ _ _ _ _ () A C row hs.b hg hr⟩

set_option maxRecDepth 100000 in
set_option maxHeartbeats 8000000 in
theorem chLeft {w : World} {v : Value} {l : List En} (hv : IsEnts w v l) (hn : l.length ≤ 1000) (t p : Int) :
    Calls Try.prog 12 #[v, .int .i64 t, .int .i64 p] w fun e w' => e = .returned (.tuple #[.int .i64 (Ch.stand l t p).1.length, .int .i64 (Ch.stand l t p).2]) ∧ Below w.heap.size w w' := by
  have HV := Lib.hid hv
  have SV := Lib.hid (show SlV v from by obtain ⟨a, c, rfl, _⟩ := hv; exact ⟨_, _, _, rfl⟩)
  obtain ⟨A, hS, hA, hA0, hAl⟩ := stand_seq l t p
  obtain ⟨N, hN⟩ : ∃ N, N = (Ch.stand l t p).1.length := ⟨_, rfl⟩
  obtain ⟨K, hK⟩ : ∃ K, K = (Ch.stand l t p).2 := ⟨_, rfl⟩
  rw [← hN, ← hK] at hA hA0
  rw [← hK] at hS
  rw [← hN, ← hK]
  have HS := Lib.hid hS
  have HA := Lib.hid hA
  have HA0 := Lib.hid hA0
  clear hS hA hA0 hN hK hv
  have r0 := ((Blk.new w 3 #[.int .i64 0]).alloc (.cells #[.int .i64 0] 26)).alloc (.cells #[.int .i64 0] 3)
  have r1 := (Blk.new (w.alloc (.cells #[.int .i64 0] 3)) 26 #[.int .i64 0]).alloc (.cells #[.int .i64 0] 3)
  have b1 := Blk.new ((w.alloc (.cells #[.int .i64 0] 3)).alloc (.cells #[.int .i64 0] 26)) 3 #[.int .i64 0]
  have hB := (((Below.refl w.heap.size w).alloc (Nat.le_refl _) (.cells #[.int .i64 0] 3)).alloc (by simp) (.cells #[.int .i64 0] 26)).alloc (by simp; omega) (.cells #[.int .i64 0] 3)
  simp only [World.size_alloc] at r1 b1
  obtain ⟨w1, hw1⟩ : ∃ w1, w1 = ((w.alloc (.cells #[.int .i64 0] 3)).alloc (.cells #[.int .i64 0] 26)).alloc (.cells #[.int .i64 0] 3) := ⟨_, rfl⟩
  rw [← hw1] at r0 r1 b1 hB
  have HW1 := Lib.hid hw1
  have R0 := Lib.hid r0
  have R1 := Lib.hid r1
  have B1 := Lib.hid b1
  have HB := Lib.hid hB
  have C := Lib.hid (chStanding v SV.out t p 23 #[] w1)
  clear hw1 r0 r1 b1 hB
  obtain ⟨dk⟩ : Nonempty Nat := ⟨0⟩
  refine (callsIn_wide (n := dk)).1 ?_
  refine callsIn_of_wp_marks Try.func12 rfl trivial ?_ rfl
  simp only [Try.ntmps12, List.size_toArray, List.length_cons, List.length_nil, Nat.reduceAdd, Nat.reduceSub, Array.replicate_succ, Array.replicate_zero, List.push_toArray, List.append_toArray, List.nil_append, List.cons_append]
  have hl1 : w.heap.size + 1 + 1 < w1.heap.size := B1.out.lt
  gi_wp2_with (refine ⟨trivial, noDepth1 _, ?_⟩; gi_at_call 26; rw [← HW1.out]; refine (callsIn_wide.2 C.out).mono ?_; rintro e w2 ⟨rfl, hb2, hz2, k1, k2, k3, k4⟩; clear C)
  have hm2 : w.heap.size ≤ w2.heap.size := Nat.le_trans HB.out.size hb2.size
  have S1 := chStanding1 (w0 := w) (n := w2.heap.size) (b0 := w.heap.size + 1 + 1) (e := 45) (dk - 1) HV.out (HB.out.trans (hb2.mono HB.out.size)) k1 k2 k3 k4 trivial (wantsAny _ _ _ _) hn otherRec (by have := hb2.size; omega)
  rw [HS.out] at S1
  refine wpIn_gives (F := Fence.wide) rfl (noDepth1 _) (gf := 33) (lb := #[.pointer (some ⟨w1.heap.size, 0, none⟩), .pointer (some ⟨w1.heap.size + 1, 0, none⟩), .pointer (some ⟨w1.heap.size + 2, 0, none⟩), .pointer (some ⟨w1.heap.size + 3, 0, none⟩)]) rfl trivial
    (enters_of Try.func33 (by kernel_rfl) rfl) S1 (fun h k => h.trans k) (fun W l o o' hl hk ho => Kp.put o' (by omega) hk ho) (Below.refl _ _) (fun x ys h => by obtain ⟨_, _, _, _, rfl⟩ := h; rfl)
    (fun pre X => SeesL w pre X) (fun pre X => Below w.heap.size w X ∧ Blk X w.heap.size 3 #[.int .i64 0] ∧ Blk X (w.heap.size + 1) 26 #[.int .i64 K] ∧ K ≠ 0)
    (fun x a' pre X => SeesL w pre X ∧ ∃ vt vp, 
      a' = { tmps := #[v, .int .i64 t, .int .i64 p, undef, undef, undef, .pointer (some ⟨w.heap.size, 0, none⟩), .pointer (some ⟨w.heap.size + 1, 0, none⟩), .pointer (some ⟨w.heap.size + 1 + 1, 0, none⟩), undef, .int .i64 x.2, v, .int .i64 t, .int .i64 p,
        .func (.func 33) #[] #[.pointer (some ⟨w1.heap.size, 0, none⟩), .pointer (some ⟨w1.heap.size + 1, 0, none⟩), .pointer (some ⟨w1.heap.size + 2, 0, none⟩), .pointer (some ⟨w1.heap.size + 3, 0, none⟩)],
        recV x.1 vt vp, .int .i64 x.2, undef, undef, undef, undef, undef, undef], defers := [] })
    ?hI ?hIx ?hMid ?h0 ?assign ?body ?done ?stop
  case hI => exact own_seesL hm2
  case hIx =>
    intro s A B row hs hg hr
    exact ⟨ownFrom_below (β := Unit) (Nat.le_refl _) hm2 () A B row hs.1 hg hr, ownFrom_cells _ _ _ _ _ () A B row hs.2.1 hg hr, ownFrom_cells _ _ _ _ _ () A B row hs.2.2.1 hg hr, hs.2.2.2⟩
  case hMid =>
    intro x a' s A B row hs hg hr
    exact ⟨own_seesL hm2 s A B row hs.1 hg hr, hs.2⟩
  case h0 =>
    have k := HB.out
    exact ⟨nofun, HB.out.trans (hb2.mono HB.out.size), R0.out.keep hb2 R0.out.lt, R1.out.keep hb2 R1.out.lt, B1.out.keep hb2 B1.out.lt⟩
  case assign =>
    rintro l' pre x ys X hx ⟨vt, vp, s1, s2, rfl⟩ hI
    gi_wp2
    exact ⟨KeepsOthers.refl _, Kp.refl _ _ _ _ _, hI, vt, vp, rfl⟩
  case body =>
    rintro l' pre ⟨r, ec⟩ a' X hx ⟨hI, vt, vp, rfl⟩
    have HI := Lib.hid hI
    have PX := Lib.hid hx
    have f0 := hI.r0.frozen 0
    have f1 := hI.r1.frozen 0
    have f2 := hI.b.frozen 0
    have d0 := hI.r0.cell 0
    have d1 := hI.r1.cell 0
    have d2 := hI.b.cell 0
    simp only [List.getElem?_toArray, List.getElem?_cons_zero] at d0 d1 d2
    have hle : pre.length < 1001 := by
      have h1 := (List.IsPrefix.length_le hx)
      rw [List.length_append, List.length_append, okA_len] at h1
      have h2 : (errT K).length ≤ 1 := by unfold errT; split <;> simp
      simp at h1
      omega
    clear hI hx
    by_cases hec : ec = 0
    · subst hec
      gi_wp2
      refine ⟨KeepsOthers.setCell _ _ _, kpSet X _ (by omega), ⟨fun x hx => ?_, HI.out.below.setCell (p := ⟨w.heap.size + 1 + 1, 0, none⟩) (by simp; omega) _, HI.out.r0.far (p := ⟨w.heap.size + 1 + 1, 0, none⟩) (by simp; omega) _, HI.out.r1.far (p := ⟨w.heap.size + 1 + 1, 0, none⟩) (by simp) _, ?_⟩⟩
      · rcases List.mem_append.1 hx with hx | hx
        · exact HI.out.ok x hx
        · simp at hx; subst hx; rfl
      · have h := HI.out.b.set 0 (.int .i64 ((pre.length : Int) + 1))
        rw [List.length_append]
        exact h
    · have hk : ec = K := seq_err (x := (r, ec)) (PX.out.subset (by simp)) hec
      have hb : ((ec : Int) != 0) = true := by simp; omega
      subst hk
      have HEC := Lib.hid hec
      clear hec
      gi_wp2
      refine ⟨((KeepsOthers.setCell _ _ _).trans (KeepsOthers.setCell _ _ _)).from _, (HI.out.below.setCell (p := ⟨w.heap.size, 0, none⟩) (Nat.le_refl _) _).setCell (p := ⟨w.heap.size + 1, 0, none⟩) (by simp) _, (HI.out.r0.set 0 _).far (p := ⟨w.heap.size + 1, 0, none⟩) (by simp) _, (HI.out.r1.far (p := ⟨w.heap.size, 0, none⟩) (by simp) _).set 0 _, HEC.out⟩
  case done =>
    intro D X hD hI hX
    have HI := Lib.hid hI
    have f0 := hI.r0.frozen 0
    have f1 := hI.r1.frozen 0
    have d0 := hI.r0.cell 0
    have d1 := hI.r1.cell 0
    have d2 := hI.b.cell 0
    simp only [List.getElem?_toArray, List.getElem?_cons_zero] at d0 d1 d2
    obtain ⟨m, hm⟩ : ∃ m : Nat, m = (okA A ++ errT K).length := ⟨_, rfl⟩
    rw [← hm] at d2
    have HM := Lib.hid hm
    clear hI hm
    gi_wp2
    have hX2 := ((KeepsOthers.setCell X ⟨w.heap.size, 0, none⟩ (.int .i64 m)).trans (KeepsOthers.setCell _ ⟨w.heap.size + 1, 0, none⟩ (.int .i64 0))).same D _ hX rfl
    refine ⟨by simp, .inl ⟨_, _, rfl, run_takeDeferred hX2, ?_⟩⟩
    have e0 := seq_ok HI.out.ok
    have q0 := (HI.out.r0.set 0 (.int .i64 m)).far (p := ⟨w.heap.size + 1, 0, none⟩) (by simp) (.int .i64 0)
    have q1 := (HI.out.r1.far (p := ⟨w.heap.size, 0, none⟩) (by simp) (.int .i64 m)).set 0 (.int .i64 0)
    have hb := (HI.out.below.setCell (p := ⟨w.heap.size, 0, none⟩) (Nat.le_refl _) (.int .i64 m)).setCell (p := ⟨w.heap.size + 1, 0, none⟩) (by simp) (.int .i64 0)
    refine ⟨_, results_two rfl _ _ w.heap.size (w.heap.size + 1) _ _ rfl rfl (load_one Try.underlying3 rfl (blk_put q0 hX2 rfl)) (load_one Try.underlying26 rfl (blk_put q1 hX2 rfl)), ?_, hb.trans (belowK_b (w := w) (Nat.le_refl _) _ D _ _ (by omega) hX2 rfl rfl)⟩
    have hN := HA.out e0
    have hm := HM.out
    subst e0
    unfold errT okA at hm
    simp at hm
    rw [← hN, ← hm]
    rfl
  case stop =>
    intro D pre X hD hpre hI hX
    obtain ⟨hb, q0, q1, hk⟩ := hI
    have Q := Lib.hid (And.intro q0 q1)
    have HK := Lib.hid hk
    clear q0 q1 hk
    gi_wp2
    refine ⟨by simp, .inl ⟨_, _, rfl, run_takeDeferred hX, ?_⟩⟩
    refine ⟨_, results_two rfl _ _ w.heap.size (w.heap.size + 1) _ _ rfl rfl (load_one Try.underlying3 rfl (blk_put Q.out.1 hX rfl)) (load_one Try.underlying26 rfl (blk_put Q.out.2 hX rfl)), ?_, hb.trans (belowK_b (w := w) (Nat.le_refl _) _ D _ _ (by omega) hX rfl rfl)⟩
    rw [HA0.out HK.out]
    rfl
end Go.Proofs.Ytecalnglidjmgaa
