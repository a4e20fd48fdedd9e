/- Package analysis: Tables. -/
import Derived.Test.YtgjkhjlobfblcaaAsE
import Derived.Test.YtgjkhjlobfblcaaAsX
import Derived.Test.YtgjkhjlobfblcaaAsY
import Derived.Test.YtgjkhjlobfblcaaAnC
namespace Go.Proofs.Ytgjkhjlobfblcaa
open Go.RowKit Go.MapKept
set_option linter.unusedSimpArgs false

theorem entSize : ∀ w, (sizeOf 30).run Try.prog w = .ok 12 w := fun w => by kernel_rfl
theorem entElem : Try.prog.elem 22 = 30 := by kernel_rfl
theorem entUnd : Try.prog.underlying 22 = some (.slice (Try.prog.elem 22)) := by kernel_rfl
/-- 'list[p:]'. -/
theorem ents_from {w : World} {v : Value} {l : List Ent} (h : IsEnts w v l) (p : Nat) (hp : p ≤ l.length) :
    ∃ y, (∀ W, (Instr.slice 22 v (some (.int .i64 p)) none none).run Try.prog W = .ok y W) ∧ IsEnts w y (l.drop p) := by
  obtain ⟨a, cap, rfl, h1, h2, hx⟩ := h
  have hrun := fun W => run_slice_l (P := Try.prog) W 22 a l.length cap entUnd .i64 p (by omega) (by omega)
  refine ⟨sliced a p l.length cap 12, fun W => ?_, ?_⟩
  · have := hrun W
    rw [entElem, entSize, Int.toNat_natCast] at this
    exact this
  · by_cases hc : cap = p
    · have hl : l.drop p = [] := List.drop_eq_nil_of_le (by omega)
      refine ⟨a, cap - p, ?_, by rw [hl]; exact Nat.zero_le _, by omega, fun j hj => by rw [hl] at hj; cases hj⟩
      unfold sliced
      rw [if_pos hc, List.length_drop]
    · refine ⟨a.map (·.add (p * 12)), cap - p, ?_, by rw [List.length_drop]; omega, by omega, fun j hj => ?_⟩
      · unfold sliced
        rw [if_neg hc, List.length_drop]
      · rw [List.length_drop] at hj
        obtain ⟨b, off, vt, vp, rfl, lt1, c0, ci, la⟩ := hx (p + j) (by omega)
        have e : (⟨b, off, none⟩ : Addr).add (p * 12) = ⟨b, off + p * 12, none⟩ := by unfold Addr.add; split <;> simp_all
        have eo : off + (p + j) * 12 = off + p * 12 + j * 12 := by omega
        rw [eo] at c0 ci
        refine ⟨b, off + p * 12, vt, vp, by rw [Option.map_some, e], lt1, ?_, ?_, ?_⟩
        · rw [List.getElem_drop]; exact c0
        · rw [List.getElem_drop]; exact ci
        · rw [List.getElem_drop]; exact la
/-- What Tables answers. -/
def OutZ (w : World) (l : List En) (check : Int) (e : Ending) (w' : World) : Prop := Below w.heap.size w w' ∧
  ((An.tablesE l check ≠ 0 ∧ e = .returned (.tuple #[.slice none 0 0, .slice none 0 0, .int .i64 (An.tablesE l check)])) ∨
   (An.tablesE l check = 0 ∧ ∃ (vt vp : Value) (T : List Row3) (P : List Row2), e = .returned (.tuple #[vt, vp, .int .i64 0]) ∧ An.TellsT (An.run check l).t T ∧ An.TellsP (An.run check l).p P ∧ Elems w' vt T.length (rows3 T) ∧ Elems w' vp P.length (rows2 P) ∧ ∀ b, vt.ownBlock = some b ∨ vp.ownBlock = some b → w.heap.size ≤ b ∧ b < w'.heap.size))
theorem tablesE_bad {l : List En} {check : Int} (h : ¬ Ch.Rises l) : An.tablesE l check = 3 := if_neg h
theorem found_iff {l : List En} {check : Int} {i : Nat} (hr : Ch.Rises l) (hs : SpotE l check i) (h0 : check ≠ 0) : An.Found l check ↔ ∃ h : i < l.length, l[i].1 = check ∧ l[i].2.kind = 5 := by
  unfold An.Found
  constructor
  · rintro (h | ⟨x, hx, hp, hk⟩)
    · exact absurd h h0
    · obtain ⟨j, hj, rfl⟩ := List.getElem_of_mem hx
      have : j = i := by
        rcases Nat.lt_trichotomy j i with h | h | h
        · have := hs.less j hj h; omega
        · exact h
        · have h1 := hs.more i (by omega) (Nat.le_refl _)
          have h2 := rises_lt hr hj h
          omega
      subst this
      exact ⟨hj, hp, hk⟩
  · rintro ⟨h, hp, hk⟩
    exact .inr ⟨l[i], List.getElem_mem h, hp, hk⟩
theorem results_ttt {P : Program} {fn : Func} {p u v : Tmp} (h : fn.results = #[.tmp p, .tmp u, .tmp v]) (tmps : Array Value) (w : World) :
    (results fn tmps).run P w = .ok (.tuple #[tmps.getD p undef, tmps.getD u undef, tmps.getD v undef]) w := by
  simp [results, h]
set_option maxRecDepth 100000 in
set_option maxHeartbeats 8000000 in
theorem asTables_bad {w : World} {v : Value} {l : List En} (hv : IsEnts w v l) (check : Int) (hr : ¬ Ch.Rises l) :
    Calls Try.prog 8 #[v, .int .i64 check] w (OutZ w l check) := by
  have R := Lib.hid (asRise hv false (decide_eq_false hr).symm)
  have HE := Lib.hid (tablesE_bad (check := check) hr)
  obtain ⟨a, cap, rfl, _⟩ := hv
  clear hr
  go_enter Try.func8, Try.ntmps8
  go_wp2_with fail
  refine R.out.mono ?_
  rintro e w1 ⟨rfl, hb⟩
  have HB := Lib.hid hb
  clear R hb
  go_wp2
  refine bodyPost_ret (results_ttt rfl _ _) rfl ?_
  exact ⟨HB.out, .inl ⟨by rw [HE.out]; decide, by rw [HE.out]; rfl⟩⟩
/- gentables13 -/
theorem EntsAt.keepA13 {w w' : World} {mt mp : Nat} {s : An.Ta} {a : Option Addr} {l : List Ent} (h : EntsAt w a l) (ha : IsTa w mt mp s) (hb : Only (Two mt mp) w w') : EntsAt w' a l := by
  intro j hj
  obtain ⟨b, off, vt, vp, e, lt1, c0, ci, la⟩ := h j hj
  have hn := ha.cellNe c0
  have hblk := hb.block b lt1 hn
  have hc : ∀ i, w'.cell? ⟨b, i, none⟩ = w.cell? ⟨b, i, none⟩ := fun i => by unfold World.cell?; simp only [hblk]
  exact ⟨b, off, vt, vp, e, Nat.lt_of_lt_of_le lt1 hb.size, (hc _).trans c0, fun i x hi => (hc _).trans (ci i x hi), la.keepA13 ha hb⟩
theorem run_drop {l : List En} {check : Int} {i : Nat} (hs : SpotE l check i) : An.run check l = An.from_ check An.none_ (l.drop i) := by
  unfold An.run
  have e : An.from_ check An.none_ l = An.from_ check An.none_ (l.take i ++ l.drop i) := by rw [List.take_append_drop]
  rw [e, An.from_app, An.from_low (l := l.take i)]
  intro x hx
  obtain ⟨j, hj, rfl⟩ := List.getElem_of_mem hx
  rw [List.getElem_take]
  rw [List.length_take] at hj
  exact hs.less j (by omega) (by omega)
theorem drop_up {l : List En} {check : Int} {i : Nat} (hs : SpotE l check i) : ∀ x ∈ l.drop i, ¬ x.1 < check := by
  intro x hx
  obtain ⟨j, hj, rfl⟩ := List.getElem_of_mem hx
  rw [List.getElem_drop]
  rw [List.length_drop] at hj
  have := hs.more (i + j) (by omega) (by omega)
  omega
theorem isTa_made (w : World) (o : Obj) : IsTa (((w.alloc (.map #[] 0)).alloc (.map #[] 0)).alloc o) w.heap.size (w.heap.size + 1) An.none_ := by
  have m1 := BMap.made w
  have m2 := BMap.made (w.alloc (.map #[] 0))
  simp only [World.size_alloc] at m2
  refine IsTa.alloc ⟨(m1.keep (Below.heap_alloc _ _ _ m1.lt)).congr fun _ => rfl, m2.congr fun _ => rfl, by omega⟩ o
theorem asRowsT {w : World} {mt mp : Nat} {s : An.Ta} (h : IsTa w mt mp s) {K : List Int} (hk : ∀ n, s.t n ≠ none → n ∈ K) (hl : K.length ≤ 1000000) : Calls Try.prog 20 #[stV mt mp] w (TellT w s.t) := by
  obtain ⟨L, h1, h2⟩ := An.fin s.t K hk
  exact rowsT h.t h1 (Nat.le_trans h2 hl)
theorem asRowsP {w : World} {mt mp : Nat} {s : An.Ta} (h : IsTa w mt mp s) {K : List Int} (hk : ∀ n, s.p n ≠ none → n ∈ K) (hl : K.length ≤ 1000000) : Calls Try.prog 21 #[stV mt mp] w (TellP w s.p) := by
  obtain ⟨L, h1, h2⟩ := An.fin s.p K hk
  exact rowsP h.p h1 (Nat.le_trans h2 hl)
def Yield.tellT (B : Nat) (f : An.TF) : Yield := ⟨none, fun v w => (∃ l, An.TellsT f l ∧ Elems w v l.length (rows3 l)) ∧ ∀ b, v.ownBlock = some b → B ≤ b ∧ b < w.heap.size, fun _ _ _ hb ⟨⟨l, h1, h2⟩, h3⟩ => ⟨⟨l, h1, h2.keep hb⟩, fun b e => ⟨(h3 b e).1, Nat.lt_of_lt_of_le (h3 b e).2 hb.size⟩⟩, fun _ h => by cases h⟩
def Yield.tellP (B : Nat) (f : An.PF) : Yield := ⟨none, fun v w => (∃ l, An.TellsP f l ∧ Elems w v l.length (rows2 l)) ∧ ∀ b, v.ownBlock = some b → B ≤ b ∧ b < w.heap.size, fun _ _ _ hb ⟨⟨l, h1, h2⟩, h3⟩ => ⟨⟨l, h1, h2.keep hb⟩, fun b e => ⟨(h3 b e).1, Nat.lt_of_lt_of_le (h3 b e).2 hb.size⟩⟩, fun _ h => by cases h⟩

set_option maxRecDepth 100000 in
set_option maxHeartbeats 8000000 in
theorem asTables_none {w : World} {v : Value} {l : List En} (hv : IsEnts w v l) (check : Int) (hr : Ch.Rises l) (hn : l.length ≤ 1000) (h0 : check ≠ 0) (hf : ¬ An.Found l check) :
    Calls Try.prog 8 #[v, .int .i64 check] w (OutZ w l check) := by
  have HE : Hid (An.tablesE l check = 7) := by unfold An.tablesE; rw [if_pos hr, if_neg hf]; rfl
  have HF := Lib.hid hf
  have HH0 := Lib.hid h0
  have hc0 : (check != 0) = true := by simpa using h0
  clear hf h0
  have R := Lib.hid (asRise hv true (decide_eq_true hr).symm)
  have HV := Lib.hid hv
  have HRS := Lib.hid hr
  have HX : Hid (IsEnts w v l) := hv
  obtain ⟨a, cap, rfl, _, _, _⟩ := hv
  clear hr
  go_enter Try.func8, Try.ntmps8
  go_wp2_with fail
  refine R.out.mono ?_
  rintro e w1 ⟨rfl, hb⟩
  have HB := Lib.hid hb
  have S := Lib.hid (asSearch (HV.out.keep hb) HRS.out hn check)
  clear R hb
  go_wp2_with fail
  refine S.out.mono ?_
  clear S
  rintro e w2 ⟨hb2, i, yes, hsp, hyes, rfl⟩
  have H2 := Lib.hid ((HV.out.keep HB.out).keep hb2)
  have HB2 := Lib.hid (below2 HB.out hb2)
  have HW2 := Lib.hid (below2 HB.out hb2).size
  have HSP := Lib.hid hsp
  have HYES := Lib.hid hyes
  clear hb2 hsp hyes HB HV
  have FIN : Hid (OutZ w l check (.returned (.tuple #[.slice none 0 0, .slice none 0 0, .int .i64 7])) w2) := ⟨HB2.out, .inl ⟨by rw [HE.out]; decide, by rw [HE.out]; rfl⟩⟩
  cases yes with
  | false =>
    clear HX H2 HB2 HW2
    go_wp2
    refine bodyPost_ret (results_ttt rfl _ _) rfl ?_
    exact FIN.out
  | true =>
    obtain ⟨hi, hpi⟩ := HYES.out.1 rfl
    have hk5 : ¬ l[i].2.kind = 5 := fun e => HF.out ((found_iff HRS.out HSP.out HH0.out).2 ⟨hi, hpi, e⟩)
    have hx2 := H2.out
    obtain ⟨a', cap', e0, _, _, hx⟩ := hx2
    obtain ⟨rfl, _, rfl⟩ := Value.slice.inj e0
    obtain ⟨b, off, vt, vp, rfl, lt1, la, ci⟩ := hx.whole i hi
    have c1 : w2.cell? ⟨b, off + i * 12 + 1, none⟩ = some (.int .i64 l[i].2.kind) := ci 1 _ rfl
    generalize l[i].2.kind = kd at *
    have hkb : (kd == 5) = false := by simpa using hk5
    clear e0 hx la ci hpi hk5 HX H2 HB2 HW2
    go_wp2
    refine bodyPost_ret (results_ttt rfl _ _) rfl ?_
    exact FIN.out
set_option maxRecDepth 100000 in
set_option maxHeartbeats 16000000 in
theorem asTables_zero {w : World} {v : Value} {l : List En} (hv : IsEnts w v l) (check : Int) (hr : Ch.Rises l) (hn : l.length ≤ 1000) (h0 : check = 0) (hk : (An.keysT l).length ≤ 1000000 ∧ (An.keysP l).length ≤ 1000000) :
    Calls Try.prog 8 #[v, .int .i64 check] w (OutZ w l check) := by
  have HOK : Hid (An.tablesE l check = 0) := by unfold An.tablesE; rw [if_pos hr, if_pos (.inl h0)]; rfl
  have HK := Lib.hid hk
  have hc0 : (check != 0) = false := by simpa using h0
  clear h0 hk
  have R := Lib.hid (asRise hv true (decide_eq_true hr).symm)
  have HV := Lib.hid hv
  have HRS := Lib.hid hr
  have HX : Hid (IsEnts w v l) := hv
  obtain ⟨a, cap, rfl, _, _, _⟩ := hv
  clear hr
  go_enter Try.func8, Try.ntmps8
  go_wp2_with fail
  refine R.out.mono ?_
  rintro e w1 ⟨rfl, hb⟩
  have HB := Lib.hid hb
  have S := Lib.hid (asSearch (HV.out.keep hb) HRS.out hn check)
  clear R hb
  go_wp2_with fail
  refine S.out.mono ?_
  clear S
  rintro e w2 ⟨hb2, i, yes, hsp, hyes, rfl⟩
  have H2 := Lib.hid ((HV.out.keep HB.out).keep hb2)
  have HB2 := Lib.hid (below2 HB.out hb2)
  have HW2 := Lib.hid (below2 HB.out hb2).size
  have HSP := Lib.hid hsp
  have HYES := Lib.hid hyes
  clear hb2 hsp hyes HB HV
  go_upto_region 6 with fail
  have hmm := @run_makeMap Try.prog
  obtain ⟨y, hsl, hye⟩ := ents_from H2.out i HSP.out.le
  obtain ⟨ya, yc, rfl, hy1, hy2, hyx⟩ := hye
  have hnl : (l.drop i).length = l.length - i := List.length_drop
  obtain ⟨D, hD⟩ : ∃ D, D = l.drop i := ⟨_, rfl⟩
  have HRUN : Hid (An.run check l = An.from_ check An.none_ D) := by rw [hD]; exact run_drop HSP.out
  have HUP : Hid (∀ x ∈ D, ¬ x.1 < check) := by rw [hD]; exact drop_up HSP.out
  have HKT : Hid (∀ s : An.Ta, s = An.run check l → (∃ K : List Int, (∀ n, s.t n ≠ none → n ∈ K) ∧ K.length ≤ 1000000) ∧ ∃ K : List Int, (∀ n, s.p n ≠ none → n ∈ K) ∧ K.length ≤ 1000000) := fun s e => ⟨⟨An.keysT l, fun n hn => An.run_keyT (by rw [← e]; exact hn), HK.out.1⟩, An.keysP l, fun n hn => An.run_keyP (by rw [← e]; exact hn), HK.out.2⟩
  rw [← hD] at hsl hy1 hyx hnl
  have hdl : D.length ≤ 1000 := by rw [hnl]; omega
  clear hD hnl hy1 hy2
  have hbm : Below w2.heap.size w2 (((w2.alloc (.map #[] 0)).alloc (.map #[] 0)).alloc (.cells #[.map (some w2.heap.size), .map (some (w2.heap.size + 1))] 54)) := (((Below.refl _ _).alloc (Nat.le_refl _) _).alloc (by simp) _).alloc (by simp; omega) _
  have kbm := Blk.new ((w2.alloc (.map #[] 0)).alloc (.map #[] 0)) 54 #[.map (some w2.heap.size), .map (some (w2.heap.size + 1))]
  have htm := isTa_made w2 (.cells #[.map (some w2.heap.size), .map (some (w2.heap.size + 1))] 54)
  simp only [World.size_alloc] at kbm
  have HYX := Lib.hid (hyx.keep hbm)
  clear hyx
  go_upto_region 7 with fail
  generalize ((w2.alloc (.map #[] 0)).alloc (.map #[] 0)).alloc (.cells #[.map (some w2.heap.size), .map (some (w2.heap.size + 1))] 54) = wm at *
  have HBM := Lib.hid (below2 HB2.out hbm)
  have HTM := Lib.hid htm
  have HKB := Lib.hid kbm
  have zm2 : w2.heap.size ≤ wm.heap.size := hbm.size
  clear hbm htm kbm hmm HB2 HX
  obtain ⟨g, hg⟩ : ∃ g, w2.heap.size = g := ⟨_, rfl⟩
  rw [hg] at HTM HKB zm2 ⊢
  have HGW : Hid (w.heap.size ≤ g) := by rw [← hg]; exact HW2.out
  clear hg HW2
  obtain ⟨n, hn⟩ : ∃ n, D.length = n := ⟨_, rfl⟩
  rw [hn] at hsl hdl
  have HN := Lib.hid hn
  clear hn
  go_wp2_with fail
  go_loopw [43] (fun vi wr => ∃ k : Nat, vi = .int .i64 k ∧ k ≤ n ∧ IsTa wr g (g + 1) (An.from_ check An.none_ (D.take k)) ∧ Only (Two g (g + 1)) wm wr) (fun vi _ => n - (intOf vi).toNat)
  case atStart => exact ⟨0, rfl, Nat.zero_le _, HTM.out, .refl _ _⟩
  case round =>
    obtain ⟨k, rfl, hk, hR, hO⟩ := hrel
    have HR := Lib.hid hR
    have HO := Lib.hid hO
    clear hR hO
    have q0 := HO.out.blk HKB.out (HTM.out.cells1 HKB.out)
    have zr := HO.out.size
    by_cases hlt : k < n
    · have hkd : k < D.length := by rw [HN.out]; exact hlt
      have HC0 := Lib.hid (HUP.out _ (List.getElem_mem hkd))
      obtain ⟨b, off, vt, vp, rfl, lt1, la, ci⟩ := (HYX.out.keepA13 HTM.out HO.out).whole k hkd
      obtain ⟨x, hx⟩ : ∃ x, x = D[k].1 := ⟨_, rfl⟩
      obtain ⟨r, hr⟩ : ∃ r, r = D[k].2 := ⟨_, rfl⟩
      rw [← hx, ← hr] at ci
      rw [← hr] at la
      rw [← hx] at HC0
      have HTK : Hid (An.from_ check An.none_ (D.take (k + 1)) = An.step check (An.from_ check An.none_ (D.take k)) (x, r)) := by
        rw [show (x, r) = D[k] from Prod.ext hx hr]
        exact take_fold _ _ _ _ hkd
      obtain ⟨T, hT⟩ : ∃ T, T = An.from_ check An.none_ (D.take k) := ⟨_, rfl⟩
      rw [← hT] at HR HTK
      clear hT hx hr hkd
      have b4 : Below wr.heap.size wr (wr.alloc (.cells (entCells x r vt vp) 30)) := (Below.refl _ _).alloc (Nat.le_refl _) _
      have r4 := Blk.new wr 30 (entCells x r vt vp)
      have C4 := fun W (hb : Below wr.heap.size wr W) => asNote (HR.out.keep hb) x r vt vp (la.keep hb) check (by have := HC0.out; omega)
      obtain ⟨ta, tc, rfl⟩ := la.t.form
      obtain ⟨pa, pc, rfl⟩ := la.p.form
      have c0 : wr.cell? ⟨b, off + k * 12, none⟩ = _ := ci 0 _ rfl
      have c1 := ci 1 _ rfl
      have c2 := ci 2 _ rfl
      have c3 := ci 3 _ rfl
      have c4 := ci 4 _ rfl
      have c5 := ci 5 _ rfl
      have c6 := ci 6 _ rfl
      have c7 := ci 7 _ rfl
      have c8 := ci 8 _ rfl
      have c9 := ci 9 _ rfl
      have c10 := ci 10 _ rfl
      have c11 := ci 11 _ rfl
      simp only [entCells, List.getElem_toArray, List.getElem_cons_zero, List.getElem_cons_succ] at c0 c1 c2 c3 c4 c5 c6 c7 c8 c9 c10 c11
      clear ci la
      unfold stV entV entCells at C4
      unfold entCells at b4 r4
      go_upto_region 10 with fail
      generalize wr.alloc (Obj.cells #[.int .i64 x, .int .i64 r.kind, .int .i64 r.txn, .int .i64 r.page, .int .i64 r.off, .int .i64 r.prev, .int .i64 r.next, .int .i64 r.beg, .string r.before, .string r.after, .slice ta r.txns.length tc, .slice pa r.pages.length pc] 30) = w4 at *
      have q4 := q0.keep b4 q0.lt
      have B4 := Lib.hid b4
      have C := Lib.hid (C4 w4 b4)
      clear C4 c0 c1 c2 c3 c4 c5 c6 c7 c8 c9 c10 c11 b4
      have d0 := r4.cell 0
      have d1 := r4.cell 1
      have d2 := r4.cell 2
      have d3 := r4.cell 3
      have d4 := r4.cell 4
      have d5 := r4.cell 5
      have d6 := r4.cell 6
      have d7 := r4.cell 7
      have d8 := r4.cell 8
      have d9 := r4.cell 9
      have d10 := r4.cell 10
      have d11 := r4.cell 11
      have e0 := q4.cell 0
      have e1 := q4.cell 1
      simp only [List.getElem?_toArray, List.getElem?_cons_zero, List.getElem?_cons_succ] at d0 d1 d2 d3 d4 d5 d6 d7 d8 d9 d10 d11 e0 e1
      clear r4 q4 q0
      go_wp2_with fail
      refine C.out.mono ?_
      clear C
      rintro e w5 ⟨⟨u, rfl⟩, h2, h3⟩
      have X5 := Lib.hid h2
      have O5 := Lib.hid ((HO.out.more B4.out).trans h3)
      clear h2 h3 d0 d1 d2 d3 d4 d5 d6 d7 d8 d9 d10 d11 e0 e1 B4
      go_wp2
      refine ⟨⟨k + 1, by simp, hlt, ?_, O5.out⟩, by simp [intOf]; omega⟩
      rw [HTK.out]
      exact X5.out
    · obtain rfl : k = n := by omega
      have e0 : An.from_ check An.none_ (D.take k) = An.run check l := by rw [List.take_of_length_le (by rw [HN.out]; exact Nat.le_refl _), HRUN.out]
      rw [e0] at HR
      clear e0
      obtain ⟨⟨K1, hk1, hl1⟩, K2, hk2, hl2⟩ := HKT.out _ rfl
      have CT := Lib.hid (fun W hb => asRowsT (HR.out.keep (w' := W) hb) hk1 hl1)
      have CP := Lib.hid (fun W hb => asRowsP (HR.out.keep (w' := W) hb) hk2 hl2)
      have QR := Lib.hid q0
      have HFB : Hid (Below w.heap.size w wr) := HO.out.below HBM.out HBM.out.size (fun b hb => by have := HGW.out; rcases hb with rfl | rfl <;> omega)
      clear hk1 hk2 hl1 hl2 q0
      have HOK : Hid (An.tablesE l check = 0) := HOK
      unfold stV at CT CP
      go_upto_region 12 with fail
      refine' wp_region_conf 4 (.is (.agg #[.map (some g), .map (some (g + 1))]) :: Yield.tellT w.heap.size (An.run check l).t :: .is (.agg #[.map (some g), .map (some (g + 1))]) :: Yield.tellP w.heap.size (An.run check l).p :: []) (by kernel_rfl) (by kernel_rfl) (by kernel_rfl) (by kernel_rfl) rfl ?main
      case main =>
        refine obs_is (fun w4 hE4 hk4 => ?_) ?_
        · have q4 := QR.out.drew.keep hE4 QR.out.drew.lt
          have e0 := q4.cell 0
          have e1 := q4.cell 1
          simp only [List.getElem?_toArray, List.getElem?_cons_zero, List.getElem?_cons_succ] at e0 e1
          clear hk4 hE4 q4
          go_wp2
          exact post_is (Below.refl _ _)
        simp only [Act.put, List.setIfInBounds_toArray, List.set_cons_zero, List.set_cons_succ]
        refine ⟨fun w4 hE4 hk4 => ?_, fun vt => ?_⟩
        · have C := CT.out w4 ((Below.refl wr.heap.size wr).drew.trans hE4)
          have hsz : w.heap.size ≤ w4.heap.size := Nat.le_trans HFB.out.size hE4.size
          clear hk4 hE4
          go_wp2_with fail
          refine C.mono ?_
          rintro e w5 ⟨v5, l5, rfl, h1, h2, h3, h5⟩
          go_wp2
          exact ⟨v5, rfl, ⟨⟨l5, h1, h2⟩, fun b h => ⟨Nat.le_trans hsz (h5 b h).1, (h5 b h).2⟩⟩, h3⟩
        simp only [Act.put, List.setIfInBounds_toArray, List.set_cons_zero, List.set_cons_succ]
        refine obs_is (fun w4 hE4 hk4 => ?_) ?_
        · have q4 := QR.out.drew.keep hE4 QR.out.drew.lt
          have e0 := q4.cell 0
          have e1 := q4.cell 1
          simp only [List.getElem?_toArray, List.getElem?_cons_zero, List.getElem?_cons_succ] at e0 e1
          clear hk4 hE4 q4
          go_wp2
          exact post_is (Below.refl _ _)
        simp only [Act.put, List.setIfInBounds_toArray, List.set_cons_zero, List.set_cons_succ]
        refine ⟨fun w4 hE4 hk4 => ?_, fun vp => ?_⟩
        · have C := CP.out w4 ((Below.refl wr.heap.size wr).drew.trans hE4)
          have hsz : w.heap.size ≤ w4.heap.size := Nat.le_trans HFB.out.size hE4.size
          clear hk4 hE4
          go_wp2_with fail
          refine C.mono ?_
          rintro e w5 ⟨v5, l5, rfl, h1, h2, h3, h5⟩
          go_wp2
          exact ⟨v5, rfl, ⟨⟨l5, h1, h2⟩, fun b h => ⟨Nat.le_trans hsz (h5 b h).1, (h5 b h).2⟩⟩, h3⟩
        simp only [Act.put, List.setIfInBounds_toArray, List.set_cons_zero, List.set_cons_succ]
        refine obs_end fun w5 hE5 hk5 => ?_
        have hT := hk5 (1, Yield.tellT w.heap.size (An.run check l).t, vt) (by simp)
        have hP := hk5 (3, Yield.tellP w.heap.size (An.run check l).p, vp) (by simp)
        obtain ⟨⟨lt, t1, t2⟩, t3⟩ : (∃ lt, An.TellsT (An.run check l).t lt ∧ Elems w5 vt lt.length (rows3 lt)) ∧ ∀ b, vt.ownBlock = some b → w.heap.size ≤ b ∧ b < w5.heap.size := hT
        obtain ⟨⟨lp, p1, p2⟩, p3⟩ : (∃ lp, An.TellsP (An.run check l).p lp ∧ Elems w5 vp lp.length (rows2 lp)) ∧ ∀ b, vp.ownBlock = some b → w.heap.size ≤ b ∧ b < w5.heap.size := hP
        have FIN : Hid (OutZ w l check (.returned (.tuple #[vt, vp, .int .i64 0])) w5) := ⟨HFB.out.trans (((Below.refl wr.heap.size wr).drew.trans hE5).mono HFB.out.size), .inr ⟨HOK.out, vt, vp, lt, lp, rfl, t1, p1, t2, p2, fun b h => h.elim (t3 b) (p3 b)⟩⟩
        clear hk5 hE5 t1 t2 t3 p1 p2 p3
        change wpList _ _ _ _ _ _
        go_wp2
        refine bodyPost_ret (results_ttt rfl _ _) rfl ?_
        exact FIN.out
set_option maxRecDepth 100000 in
set_option maxHeartbeats 16000000 in
theorem asTables_some {w : World} {v : Value} {l : List En} (hv : IsEnts w v l) (check : Int) (hr : Ch.Rises l) (hn : l.length ≤ 1000) (h0 : check ≠ 0) (hf : An.Found l check) (hk : (An.keysT l).length ≤ 1000000 ∧ (An.keysP l).length ≤ 1000000) :
    Calls Try.prog 8 #[v, .int .i64 check] w (OutZ w l check) := by
  have HOK : Hid (An.tablesE l check = 0) := by unfold An.tablesE; rw [if_pos hr, if_pos hf]; rfl
  have HK := Lib.hid hk
  have HF := Lib.hid hf
  have HH0 := Lib.hid h0
  have hc0 : (check != 0) = true := by simpa using h0
  clear h0 hk hf
  have R := Lib.hid (asRise hv true (decide_eq_true hr).symm)
  have HV := Lib.hid hv
  have HRS := Lib.hid hr
  have HX : Hid (IsEnts w v l) := hv
  obtain ⟨a, cap, rfl, _, _, _⟩ := hv
  clear hr
  go_enter Try.func8, Try.ntmps8
  go_wp2_with fail
  refine R.out.mono ?_
  rintro e w1 ⟨rfl, hb⟩
  have HB := Lib.hid hb
  have S := Lib.hid (asSearch (HV.out.keep hb) HRS.out hn check)
  clear R hb
  go_wp2_with fail
  refine S.out.mono ?_
  clear S
  rintro e w2 ⟨hb2, i, yes, hsp, hyes, rfl⟩
  have H2 := Lib.hid ((HV.out.keep HB.out).keep hb2)
  have HB2 := Lib.hid (below2 HB.out hb2)
  have HW2 := Lib.hid (below2 HB.out hb2).size
  have HSP := Lib.hid hsp
  have HYES := Lib.hid hyes
  clear hb2 hsp hyes HB HV
  obtain ⟨hi, hpi, hk5⟩ := (found_iff HRS.out HSP.out HH0.out).1 HF.out
  obtain rfl : yes = true := HYES.out.2 ⟨hi, hpi⟩
  have hx2 := H2.out
  obtain ⟨a', cap', e0, _, _, hx⟩ := hx2
  obtain ⟨rfl, _, rfl⟩ := Value.slice.inj e0
  obtain ⟨b, off, vt, vp, rfl, lt1, la, ci⟩ := hx.whole i hi
  have c1 : w2.cell? ⟨b, off + i * 12 + 1, none⟩ = some (.int .i64 5) := by rw [← hk5]; exact ci 1 _ rfl
  clear e0 hx la ci hpi hk5 lt1
  go_upto_region 6 with fail
  have hmm := @run_makeMap Try.prog
  obtain ⟨y, hsl, hye⟩ := ents_from H2.out i HSP.out.le
  obtain ⟨ya, yc, rfl, hy1, hy2, hyx⟩ := hye
  have hnl : (l.drop i).length = l.length - i := List.length_drop
  obtain ⟨D, hD⟩ : ∃ D, D = l.drop i := ⟨_, rfl⟩
  have HRUN : Hid (An.run check l = An.from_ check An.none_ D) := by rw [hD]; exact run_drop HSP.out
  have HUP : Hid (∀ x ∈ D, ¬ x.1 < check) := by rw [hD]; exact drop_up HSP.out
  have HKT : Hid (∀ s : An.Ta, s = An.run check l → (∃ K : List Int, (∀ n, s.t n ≠ none → n ∈ K) ∧ K.length ≤ 1000000) ∧ ∃ K : List Int, (∀ n, s.p n ≠ none → n ∈ K) ∧ K.length ≤ 1000000) := fun s e => ⟨⟨An.keysT l, fun n hn => An.run_keyT (by rw [← e]; exact hn), HK.out.1⟩, An.keysP l, fun n hn => An.run_keyP (by rw [← e]; exact hn), HK.out.2⟩
  rw [← hD] at hsl hy1 hyx hnl
  have hdl : D.length ≤ 1000 := by rw [hnl]; omega
  clear hD hnl hy1 hy2
  have hbm : Below w2.heap.size w2 (((w2.alloc (.map #[] 0)).alloc (.map #[] 0)).alloc (.cells #[.map (some w2.heap.size), .map (some (w2.heap.size + 1))] 54)) := (((Below.refl _ _).alloc (Nat.le_refl _) _).alloc (by simp) _).alloc (by simp; omega) _
  have kbm := Blk.new ((w2.alloc (.map #[] 0)).alloc (.map #[] 0)) 54 #[.map (some w2.heap.size), .map (some (w2.heap.size + 1))]
  have htm := isTa_made w2 (.cells #[.map (some w2.heap.size), .map (some (w2.heap.size + 1))] 54)
  simp only [World.size_alloc] at kbm
  have HYX := Lib.hid (hyx.keep hbm)
  clear hyx
  go_upto_region 7 with fail
  generalize ((w2.alloc (.map #[] 0)).alloc (.map #[] 0)).alloc (.cells #[.map (some w2.heap.size), .map (some (w2.heap.size + 1))] 54) = wm at *
  have HBM := Lib.hid (below2 HB2.out hbm)
  have HTM := Lib.hid htm
  have HKB := Lib.hid kbm
  have zm2 : w2.heap.size ≤ wm.heap.size := hbm.size
  clear hbm htm kbm hmm HB2 HX
  obtain ⟨g, hg⟩ : ∃ g, w2.heap.size = g := ⟨_, rfl⟩
  rw [hg] at HTM HKB zm2 ⊢
  have HGW : Hid (w.heap.size ≤ g) := by rw [← hg]; exact HW2.out
  clear hg HW2
  obtain ⟨n, hn⟩ : ∃ n, D.length = n := ⟨_, rfl⟩
  rw [hn] at hsl hdl
  have HN := Lib.hid hn
  clear hn
  go_wp2_with fail
  go_loopw [43] (fun vi wr => ∃ k : Nat, vi = .int .i64 k ∧ k ≤ n ∧ IsTa wr g (g + 1) (An.from_ check An.none_ (D.take k)) ∧ Only (Two g (g + 1)) wm wr) (fun vi _ => n - (intOf vi).toNat)
  case atStart => exact ⟨0, rfl, Nat.zero_le _, HTM.out, .refl _ _⟩
  case round =>
    obtain ⟨k, rfl, hk, hR, hO⟩ := hrel
    have HR := Lib.hid hR
    have HO := Lib.hid hO
    clear hR hO
    have q0 := HO.out.blk HKB.out (HTM.out.cells1 HKB.out)
    have zr := HO.out.size
    by_cases hlt : k < n
    · have hkd : k < D.length := by rw [HN.out]; exact hlt
      have HC0 := Lib.hid (HUP.out _ (List.getElem_mem hkd))
      obtain ⟨b, off, vt, vp, rfl, lt1, la, ci⟩ := (HYX.out.keepA13 HTM.out HO.out).whole k hkd
      obtain ⟨x, hx⟩ : ∃ x, x = D[k].1 := ⟨_, rfl⟩
      obtain ⟨r, hr⟩ : ∃ r, r = D[k].2 := ⟨_, rfl⟩
      rw [← hx, ← hr] at ci
      rw [← hr] at la
      rw [← hx] at HC0
      have HTK : Hid (An.from_ check An.none_ (D.take (k + 1)) = An.step check (An.from_ check An.none_ (D.take k)) (x, r)) := by
        rw [show (x, r) = D[k] from Prod.ext hx hr]
        exact take_fold _ _ _ _ hkd
      obtain ⟨T, hT⟩ : ∃ T, T = An.from_ check An.none_ (D.take k) := ⟨_, rfl⟩
      rw [← hT] at HR HTK
      clear hT hx hr hkd
      have b4 : Below wr.heap.size wr (wr.alloc (.cells (entCells x r vt vp) 30)) := (Below.refl _ _).alloc (Nat.le_refl _) _
      have r4 := Blk.new wr 30 (entCells x r vt vp)
      have C4 := fun W (hb : Below wr.heap.size wr W) => asNote (HR.out.keep hb) x r vt vp (la.keep hb) check (by have := HC0.out; omega)
      obtain ⟨ta, tc, rfl⟩ := la.t.form
      obtain ⟨pa, pc, rfl⟩ := la.p.form
      have c0 : wr.cell? ⟨b, off + k * 12, none⟩ = _ := ci 0 _ rfl
      have c1 := ci 1 _ rfl
      have c2 := ci 2 _ rfl
      have c3 := ci 3 _ rfl
      have c4 := ci 4 _ rfl
      have c5 := ci 5 _ rfl
      have c6 := ci 6 _ rfl
      have c7 := ci 7 _ rfl
      have c8 := ci 8 _ rfl
      have c9 := ci 9 _ rfl
      have c10 := ci 10 _ rfl
      have c11 := ci 11 _ rfl
      simp only [entCells, List.getElem_toArray, List.getElem_cons_zero, List.getElem_cons_succ] at c0 c1 c2 c3 c4 c5 c6 c7 c8 c9 c10 c11
      clear ci la
      unfold stV entV entCells at C4
      unfold entCells at b4 r4
      go_upto_region 10 with fail
      generalize wr.alloc (Obj.cells #[.int .i64 x, .int .i64 r.kind, .int .i64 r.txn, .int .i64 r.page, .int .i64 r.off, .int .i64 r.prev, .int .i64 r.next, .int .i64 r.beg, .string r.before, .string r.after, .slice ta r.txns.length tc, .slice pa r.pages.length pc] 30) = w4 at *
      have q4 := q0.keep b4 q0.lt
      have B4 := Lib.hid b4
      have C := Lib.hid (C4 w4 b4)
      clear C4 c0 c1 c2 c3 c4 c5 c6 c7 c8 c9 c10 c11 b4
      have d0 := r4.cell 0
      have d1 := r4.cell 1
      have d2 := r4.cell 2
      have d3 := r4.cell 3
      have d4 := r4.cell 4
      have d5 := r4.cell 5
      have d6 := r4.cell 6
      have d7 := r4.cell 7
      have d8 := r4.cell 8
      have d9 := r4.cell 9
      have d10 := r4.cell 10
      have d11 := r4.cell 11
      have e0 := q4.cell 0
      have e1 := q4.cell 1
      simp only [List.getElem?_toArray, List.getElem?_cons_zero, List.getElem?_cons_succ] at d0 d1 d2 d3 d4 d5 d6 d7 d8 d9 d10 d11 e0 e1
      clear r4 q4 q0
      go_wp2_with fail
      refine C.out.mono ?_
      clear C
      rintro e w5 ⟨⟨u, rfl⟩, h2, h3⟩
      have X5 := Lib.hid h2
      have O5 := Lib.hid ((HO.out.more B4.out).trans h3)
      clear h2 h3 d0 d1 d2 d3 d4 d5 d6 d7 d8 d9 d10 d11 e0 e1 B4
      go_wp2
      refine ⟨⟨k + 1, by simp, hlt, ?_, O5.out⟩, by simp [intOf]; omega⟩
      rw [HTK.out]
      exact X5.out
    · obtain rfl : k = n := by omega
      have e0 : An.from_ check An.none_ (D.take k) = An.run check l := by rw [List.take_of_length_le (by rw [HN.out]; exact Nat.le_refl _), HRUN.out]
      rw [e0] at HR
      clear e0
      obtain ⟨⟨K1, hk1, hl1⟩, K2, hk2, hl2⟩ := HKT.out _ rfl
      have CT := Lib.hid (fun W hb => asRowsT (HR.out.keep (w' := W) hb) hk1 hl1)
      have CP := Lib.hid (fun W hb => asRowsP (HR.out.keep (w' := W) hb) hk2 hl2)
      have QR := Lib.hid q0
      have HFB : Hid (Below w.heap.size w wr) := HO.out.below HBM.out HBM.out.size (fun b hb => by have := HGW.out; rcases hb with rfl | rfl <;> omega)
      clear hk1 hk2 hl1 hl2 q0
      have HOK : Hid (An.tablesE l check = 0) := HOK
      unfold stV at CT CP
      go_upto_region 12 with fail
      refine' wp_region_conf 4 (.is (.agg #[.map (some g), .map (some (g + 1))]) :: Yield.tellT w.heap.size (An.run check l).t :: .is (.agg #[.map (some g), .map (some (g + 1))]) :: Yield.tellP w.heap.size (An.run check l).p :: []) (by kernel_rfl) (by kernel_rfl) (by kernel_rfl) (by kernel_rfl) rfl ?main
      case main =>
        refine obs_is (fun w4 hE4 hk4 => ?_) ?_
        · have q4 := QR.out.drew.keep hE4 QR.out.drew.lt
          have e0 := q4.cell 0
          have e1 := q4.cell 1
          simp only [List.getElem?_toArray, List.getElem?_cons_zero, List.getElem?_cons_succ] at e0 e1
          clear hk4 hE4 q4
          go_wp2
          exact post_is (Below.refl _ _)
        simp only [Act.put, List.setIfInBounds_toArray, List.set_cons_zero, List.set_cons_succ]
        refine ⟨fun w4 hE4 hk4 => ?_, fun vt => ?_⟩
        · have C := CT.out w4 ((Below.refl wr.heap.size wr).drew.trans hE4)
          have hsz : w.heap.size ≤ w4.heap.size := Nat.le_trans HFB.out.size hE4.size
          clear hk4 hE4
          go_wp2_with fail
          refine C.mono ?_
          rintro e w5 ⟨v5, l5, rfl, h1, h2, h3, h5⟩
          go_wp2
          exact ⟨v5, rfl, ⟨⟨l5, h1, h2⟩, fun b h => ⟨Nat.le_trans hsz (h5 b h).1, (h5 b h).2⟩⟩, h3⟩
        simp only [Act.put, List.setIfInBounds_toArray, List.set_cons_zero, List.set_cons_succ]
        refine obs_is (fun w4 hE4 hk4 => ?_) ?_
        · have q4 := QR.out.drew.keep hE4 QR.out.drew.lt
          have e0 := q4.cell 0
          have e1 := q4.cell 1
          simp only [List.getElem?_toArray, List.getElem?_cons_zero, List.getElem?_cons_succ] at e0 e1
          clear hk4 hE4 q4
          go_wp2
          exact post_is (Below.refl _ _)
        simp only [Act.put, List.setIfInBounds_toArray, List.set_cons_zero, List.set_cons_succ]
        refine ⟨fun w4 hE4 hk4 => ?_, fun vp => ?_⟩
        · have C := CP.out w4 ((Below.refl wr.heap.size wr).drew.trans hE4)
          have hsz : w.heap.size ≤ w4.heap.size := Nat.le_trans HFB.out.size hE4.size
          clear hk4 hE4
          go_wp2_with fail
          refine C.mono ?_
          rintro e w5 ⟨v5, l5, rfl, h1, h2, h3, h5⟩
          go_wp2
          exact ⟨v5, rfl, ⟨⟨l5, h1, h2⟩, fun b h => ⟨Nat.le_trans hsz (h5 b h).1, (h5 b h).2⟩⟩, h3⟩
        simp only [Act.put, List.setIfInBounds_toArray, List.set_cons_zero, List.set_cons_succ]
        refine obs_end fun w5 hE5 hk5 => ?_
        have hT := hk5 (1, Yield.tellT w.heap.size (An.run check l).t, vt) (by simp)
        have hP := hk5 (3, Yield.tellP w.heap.size (An.run check l).p, vp) (by simp)
        obtain ⟨⟨lt, t1, t2⟩, t3⟩ : (∃ lt, An.TellsT (An.run check l).t lt ∧ Elems w5 vt lt.length (rows3 lt)) ∧ ∀ b, vt.ownBlock = some b → w.heap.size ≤ b ∧ b < w5.heap.size := hT
        obtain ⟨⟨lp, p1, p2⟩, p3⟩ : (∃ lp, An.TellsP (An.run check l).p lp ∧ Elems w5 vp lp.length (rows2 lp)) ∧ ∀ b, vp.ownBlock = some b → w.heap.size ≤ b ∧ b < w5.heap.size := hP
        have FIN : Hid (OutZ w l check (.returned (.tuple #[vt, vp, .int .i64 0])) w5) := ⟨HFB.out.trans (((Below.refl wr.heap.size wr).drew.trans hE5).mono HFB.out.size), .inr ⟨HOK.out, vt, vp, lt, lp, rfl, t1, p1, t2, p2, fun b h => h.elim (t3 b) (p3 b)⟩⟩
        clear hk5 hE5 t1 t2 t3 p1 p2 p3
        change wpList _ _ _ _ _ _
        go_wp2
        refine bodyPost_ret (results_ttt rfl _ _) rfl ?_
        exact FIN.out
theorem asTables {w : World} {v : Value} {l : List En} (hv : IsEnts w v l) (check : Int) (hn : l.length ≤ 1000) (hk : (An.keysT l).length ≤ 1000000 ∧ (An.keysP l).length ≤ 1000000) :
    Calls Try.prog 8 #[v, .int .i64 check] w (OutZ w l check) := by
  by_cases hr : Ch.Rises l
  · by_cases h0 : check = 0
    · exact asTables_zero hv check hr hn h0 hk
    · by_cases hf : An.Found l check
      · exact asTables_some hv check hr hn h0 hf hk
      · exact asTables_none hv check hr hn h0 hf
  · exact asTables_bad hv check hr
end Go.Proofs.Ytgjkhjlobfblcaa
