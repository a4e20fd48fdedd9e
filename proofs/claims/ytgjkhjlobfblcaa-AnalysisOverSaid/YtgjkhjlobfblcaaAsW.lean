/- maps.Values of rows of pages; slices.AppendSeq, slices.Collect over it. -/
import Derived.Test.YtgjkhjlobfblcaaAsU
import Derived.Test.YtgjkhjlobfblcaaAsB
namespace Go.Proofs.Ytgjkhjlobfblcaa
open Go.RowKit Go.MapKept Go.Shelf
set_option linter.unusedSimpArgs false

/-- A row's key and value. -/
def kvP (x : Row2) : Value × Value := (.int .i64 x.1, .agg #[.int .i64 x.1, .int .i64 x.2])
/-- What a map holds, as a list in some order. -/
def HoldsP (f : An.PF) (L : List Row2) : Prop := (L.map (·.1)).Nodup ∧ ∀ n v, f n = some v ↔ (n, v) ∈ L
theorem listP {w : World} {b : Nat} {f : An.PF} (h : BMap w b (pF f)) {L : List Row2} (hL : HoldsP f L) :
    ∃ es clock, w.heap[b]? = some (.map es clock) ∧ Stamped es clock ∧ (es.toList.map fun e => (e.key, e.val)).Perm (L.map kvP) := by
  refine BMap.list h (T := L) (fun x => x.1) (fun x => .agg #[.int .i64 x.1, .int .i64 x.2]) hL.1 (fun x hx => ?_) fun i v hv => ?_
  · have := (hL.2 x.1 x.2).2 hx
    unfold pF
    rw [this]
    rfl
  · unfold pF at hv
    cases hf : f i with
    | none => rw [hf] at hv; cases hv
    | some x => exact ⟨_, (hL.2 i x).1 hf, rfl⟩
theorem infoP13 : (Try.prog.info? 42).map (fun i => (i.zero, i.size, i.bytes)) = some (some (.agg #[.int .i64 0, .int .i64 0]), 2, 16) := by kernel_rfl
theorem valuesP (mb : Nat) (w : World) : Calls Try.prog 29 #[.map (some mb)] w fun e w' => e = .returned (.func (.func 36) #[] #[.pointer (some ⟨w.heap.size, 0, none⟩)]) ∧ w' = w.alloc (.cells #[.map (some mb)] 52) := by
  go_enter Try.func29, Try.ntmps29
  go_wp2
  go_ret
  exact ⟨rfl, rfl⟩

set_option maxRecDepth 100000 in
set_option maxHeartbeats 4000000 in
theorem values1P (k : Nat) {w0 : World} {b B : Nat} {f : An.PF} {L : List Row2} (hm : BMap w0 b (pF f)) (hL : HoldsP f L) (hB : Blk w0 B 52 #[.map (some b)]) :
    SeqStopsK Fence.wide k Try.prog 36 #[.pointer (some ⟨B, 0, none⟩)] (fun x : Row2 => #[.agg #[.int .i64 x.1, .int .i64 x.2]]) KeepsWalks (fun ss => ss.Perm L) (fun _ => True) L.length w0 := by
  intro l J Jx W hW hJ hJx hY h0
  have hb := hB.keep hW hB.lt
  have c0 := hb.cell 0
  simp only [List.getElem?_toArray, List.getElem?_cons_zero] at c0
  have hmW := hm.keep (hW.block b hm.lt)
  obtain ⟨es, clock, he, hst, hp⟩ := listP hmW hL
  obtain ⟨er, R0⟩ := Rng.start (P := Try.prog) (f := kvP) Try.underlying52 he hst hp
  have J0 := hJ _ _ _ none h0 (World.grownBy_alloc W (.mapIter (some b) clock #[] clock) none) (fun r e => by cases e)
  obtain ⟨i0, hi, hz0, hz1, hz2⟩ := info_parts infoP13
  have HY := Lib.hid hY
  have HJ := Lib.hid hJ
  have HJ0 := Lib.hid J0
  have HR0 := Lib.hid R0
  clear hY hJ hJx h0 hb hmW he hst hp J0 R0 hm hL hB hW
  refine callsIn_of_wp Try.func36 rfl trivial ?_ rfl
  simp only [Try.ntmps36, List.size_toArray, List.length_cons, List.length_nil, Nat.reduceAdd, Nat.reduceSub, Array.replicate_succ, Array.replicate_zero, List.push_toArray, List.append_toArray, List.nil_append, List.cons_append]
  gi_wp2
  gi_loopw [4] (fun _ wr => ∃ (pre D : List Row2), (pre ++ D).Perm L ∧ J pre wr ∧ Rng wr b W.heap.size kvP D) (fun _ wr => wr.rangeLeft b W.heap.size)
  case atStart => exact ⟨[], L, by simp, HJ0.out, HR0.out⟩
  case round =>
    obtain ⟨pre, D, hp, hJp, hR⟩ := hrel
    rcases hR.next (P := Try.prog) 0 with ⟨rfl, en⟩ | ⟨x, D', w1, hpx, en, hR1, hg, hs, hen⟩
    · clear HY HJ0 HR0 er
      gi_wp2
      go_end0
      exact ⟨⟨_, rfl⟩, .inl ⟨pre, by simpa using hp, hJp⟩⟩
    · have hp2 : (pre ++ [x] ++ D').Perm L := by
        rw [List.append_assoc]
        exact ((hpx.append_left pre).symm.trans hp)
      have hlen : pre.length < L.length := by have := hp2.length_eq; simp at this; omega
      have hJ1 : J pre w1 := HJ.out pre wr w1 (some W.heap.size) hJp hg (fun r e => by cases e; exact ⟨Nat.le_refl _, hR.walkT⟩)
      have hJ2 : J pre (w1.alloc (.cells #[.int .i64 x.1, .int .i64 x.2] 42)) := HJ.out pre w1 _ none hJ1 (World.grownBy_alloc w1 _ none) (fun r e => by cases e)
      have hR2 : Rng (w1.alloc (.cells #[.int .i64 x.1, .int .i64 x.2] 42)) b W.heap.size kvP D' := hR1.below ((Below.refl _ _).alloc (Nat.le_refl _) _)
      have hm2 : wr.rangeLeft b W.heap.size = D'.length + 1 := by rw [hR.left_eq, hpx.length_eq]; rfl
      obtain ⟨fn, tmps, assign, body, hy, hRR⟩ := HY.out pre x (w1.alloc (.cells #[.int .i64 x.1, .int .i64 x.2] 42)) hJ2 hlen
      have HRR := Lib.hid hRR
      have HP2 := Lib.hid hp2
      have HR2 := Lib.hid hR2
      have HM2 := Lib.hid hm2
      clear HY hRR hp hp2 hlen hJp hR hJ1 hJ2 hR1 hR2 hg hs hpx hm2 HJ0 HR0 er HJ
      unfold kvP at en hen
      gi_wp2_with fail
      refine ⟨noDepth1 _, HRR.out.mono ?_⟩
      clear hy hen en
      rintro e5 W5 (⟨rfl, hJ5, hk5⟩ | ⟨rfl, hJx5⟩)
      · have R5 := HR2.out.walks hk5
        have M5 := R5.left_eq
        have RR := Lib.hid R5
        have JJ := Lib.hid hJ5
        clear R5 hJ5 hk5
        gi_wp2
        go_roundw
        case rel => exact ⟨pre ++ [x], D', HP2.out, JJ.out, RR.out⟩
        case measure => rw [HM2.out, M5]; omega
      · gi_wp2
        refine bodyPost_ret (results_none rfl _ _ _) rfl ?_
        exact ⟨⟨_, rfl⟩, .inr ⟨_, trivial, hJx5⟩⟩

attribute [local go_sem] Oper.semAt_some
/-- What is collected. -/
def GotP (Sx : List Row2 → Prop) (w : World) (e : Ending) (w' : World) : Prop := ∃ (v : Value) (ss : List Row2), e = .returned v ∧ Sx ss ∧ w'.ownsRow (w.heap.size + 1) 42 2 v ss.length (rows2 ss) ∧ (ss = [] → v = .slice none 0 0) ∧ Below w.heap.size w w'
set_option maxRecDepth 100000 in
set_option maxHeartbeats 4000000 in
theorem appendP (k : Nat) (g : Nat) (lb : Array Value) (eg : ∀ args w, (callFunc g args).run Try.prog w = .ok (.enter g args) w) (Sx : List Row2 → Prop) (N : Nat) (hN : N ≤ 1000000) (w : World)
    (hseq : SeqStopsK Fence.wide (k + 1) Try.prog g lb (fun x : Row2 => #[.agg #[.int .i64 x.1, .int .i64 x.2]]) KeepsWalks Sx (fun _ => True) N w) :
    CallsIn Fence.wide (k + 1 + 1) Try.prog 40 #[.slice none 0 0, .func (.func g) #[] lb] w (GotP Sx w) := by
  obtain ⟨i0, hi, hz0, hz1, hz2⟩ := info_parts infoP13
  have hs := Blk.new w 26 #[.slice none 0 0]
  have hb := (Below.refl w.heap.size w).alloc (Nat.le_refl _) (.cells #[.slice none 0 0] 26)
  have hz : (w.alloc (.cells #[.slice none 0 0] 26)).heap.size = w.heap.size + 1 := by simp
  refine callsIn_of_wp_marks Try.func40 rfl trivial ?_ rfl
  simp only [Try.ntmps40, List.size_toArray, List.length_cons, List.length_nil, Nat.reduceAdd, Nat.reduceSub, Array.replicate_succ, Array.replicate_zero, List.push_toArray, List.append_toArray, List.nil_append, List.cons_append]
  gi_wp2
  generalize w.alloc (.cells #[.slice none 0 0] 26) = w1 at *
  refine wpIn_rangeFunc_ownH (F := Fence.wide) rfl (by omega) (gf := g) (lb := lb) rfl trivial eg hseq walksK_t walksK_b hb (fun x => rfl)
    (fun pre X => Box13 w (w.heap.size + 1) w.heap.size 26 42 2 (rows2 pre) pre.length X) (fun _ _ _ => False) (own_box13 (by omega)) (fun _ _ _ _ _ h => h.elim) ⟨hb, by omega, _, hs, World.ownsRow_nil _ _ _ 2, fun _ => rfl⟩
    (fun x a' X => ∃ B, Blk X B 42 #[.int .i64 x.1, .int .i64 x.2] ∧ a' = { tmps := #[.slice none 0 0, .func (.func g) #[] lb, .pointer (some ⟨w.heap.size, 0, none⟩), undef, .slice none 0 0, .pointer (some ⟨B, 0, none⟩), .func (.func g) #[] lb, .agg #[.int .i64 x.1, .int .i64 x.2], undef, undef, undef, undef, undef], defers := [] })
    (fun x a' _ A B row h hg hr => by obtain ⟨X, hx, e⟩ := h; exact ⟨X, ownFrom_cells (β := Unit) _ _ _ _ _ () A B row hx hg hr, e⟩) ?assign ?body ?done ?stop
  case assign =>
    intro l' pre x X K hI hK
    gi_wp2
    have hb := (Below.refl X.heap.size X).alloc (Nat.le_refl _) (.cells #[.int .i64 x.1, .int .i64 x.2] 42)
    exact hK _ _ ((KeepsOthers.alloc _ _).from _) (KeepsWalks.alloc _ _) (own_box13 (β := List Row2) (B := w.heap.size) (Nat.le_refl _) pre X _ none hI (World.grownBy_alloc _ _ none) (fun r e => by cases e)) ⟨X.heap.size, Blk.new X _ _, rfl⟩
  case body =>
    rintro l' pre x a' X hl _ hI ⟨B, hB, rfl⟩ hlen
    have HI := Lib.hid hI
    have zX := hI.z
    obtain ⟨u, hu, hrow, _⟩ := hI.b
    have HU := Lib.hid hu
    have HROW := Lib.hid hrow
    have d2 := hu.cell 0
    have f2 := hu.frozen 0
    have c0 := hB.cell 0
    have c1 := hB.cell 1
    simp only [List.getElem?_toArray, List.getElem?_cons_zero, List.getElem?_cons_succ] at d2 c0 c1
    clear hI hu hrow hl hB hs hb
    gi_wp2_with (gi_at_builtin; refine wpListIn_append_own _ rfl _ _ 26 rfl (w.heap.size + 1) 42 i0 _ 2 16 Try.underlying26 hi hz0 hz1 hz2 rfl (by decide) _ _ _ rfl (HROW.out.alloc _) ⟨X.heap.size, 0, none⟩ 1 1 [.int .i64 x.1, .int .i64 x.2] rfl rfl (World.news_of_block (Blk.new _ _ _)) (by simp [Value.oneCell']) (by simp only [maxLen]; omega) (by omega) (by simp; omega) ?_; intro v' w6 hown' hgrow hnil; clear hnil; obtain ⟨g', cap', rfl⟩ := ownsRow_succ hown'; obtain ⟨hv1, hv2, hr2, hk2, hp2⟩ := appendedB (m := w.heap.size) HU.out HROW.out (by omega) (by omega) zX hown' hgrow; have hc1 := hv1.cell 0; have hf1 := hv1.frozen 0; simp only [List.getElem?_toArray, List.getElem?_cons_zero] at hc1; have HV2 := Lib.hid (And.intro hv2 (And.intro hr2 (And.intro hk2 hp2))); clear hv1 hv2 hr2 hk2 hp2 hown' hgrow)
    obtain ⟨hv2, hr2, hk2, hp2⟩ := HV2.out
    exact ⟨hk2.from _, hk2.walks, HI.out.below.trans hp2, Nat.le_trans zX hk2.size, _, hv2, by rw [List.length_append]; exact (rows2_snoc pre x).symm ▸ hr2, fun h => by simp at h⟩
  case done =>
    intro D ss X hD hS hI hX
    obtain ⟨u, hu, hrow, hu0⟩ := hI.b
    have d2 := hu.cell 0
    simp only [List.getElem?_toArray, List.getElem?_cons_zero] at d2
    obtain ⟨ua, un, uc, rfl⟩ : ∃ a n c, u = .slice a n c := by
      rcases hrow.2 with ⟨rfl, _⟩ | ⟨g, cap, cur, rfl, _⟩
      · exact ⟨_, _, _, rfl⟩
      · exact ⟨_, _, _, rfl⟩
    have HI := Lib.hid hI
    have HROW := Lib.hid hrow
    clear hI hu hrow
    gi_wp2
    refine ⟨by simp, .inl ⟨_, _, rfl, run_takeDeferred hX, ?_⟩⟩
    exact ⟨_, results_tmp rfl _ _ _, .slice ua un uc, ss, rfl, hS, ownsRow_putObj HROW.out (.deferred none) hX rfl, fun h => hu0 (by rw [h]; rfl), HI.out.below.trans (belowK_b (w := w) (Nat.le_refl _) _ D _ _ (by omega) hX rfl rfl)⟩
  case stop => exact fun _ _ _ _ _ _ h => h.elim
set_option maxRecDepth 100000 in
theorem collectP (g : Nat) (lb : Array Value) (eg : ∀ args w, (callFunc g args).run Try.prog w = .ok (.enter g args) w) (Sx : List Row2 → Prop) (N : Nat) (hN : N ≤ 1000000) (w : World)
    (hseq : SeqStopsK Fence.wide 1 Try.prog g lb (fun x : Row2 => #[.agg #[.int .i64 x.1, .int .i64 x.2]]) KeepsWalks Sx (fun _ => True) N w) : Calls Try.prog 34 #[.func (.func g) #[] lb] w (GotP Sx w) := by
  have K := Lib.hid ((callsIn_wide (n := 2)).1 (appendP 0 g lb eg Sx N hN w hseq))
  go_enter Try.func34, Try.ntmps34
  go_wp2_with fail
  refine K.out.mono ?_
  rintro e w' ⟨v, ss, rfl, h1, h2, h3, h4⟩
  go_wp2
  go_ret
  exact ⟨v, ss, rfl, h1, h2, h3, h4⟩
end Go.Proofs.Ytgjkhjlobfblcaa
