/- Package chain: standing, and the iterator that it makes: it ranges over follow's. -/
import Derived.Test.YtecalnglidjmgaaChG
namespace Go.Proofs.Ytecalnglidjmgaa
open Go.RowKit Go.Shelf

set_option maxRecDepth 100000 in
theorem chStanding (v : Value) (hv : SlV v) (t p : Int) (wf : Nat) (wcap : Array Value) (w : World) :
    Calls Try.prog 26 #[v, .int .i64 t, .int .i64 p, .func (.func wf) #[] wcap] w fun e w' =>
      e = .returned (.func (.func 33) #[] #[.pointer (some ⟨w.heap.size, 0, none⟩), .pointer (some ⟨w.heap.size + 1, 0, none⟩), .pointer (some ⟨w.heap.size + 2, 0, none⟩), .pointer (some ⟨w.heap.size + 3, 0, none⟩)]) ∧
      Below w.heap.size w w' ∧ w'.heap.size = w.heap.size + 4 ∧ Blk w' w.heap.size 22 #[v] ∧ Blk w' (w.heap.size + 1) 3 #[.int .i64 t] ∧ Blk w' (w.heap.size + 2) 3 #[.int .i64 p] ∧
      Blk w' (w.heap.size + 3) 56 #[.func (.func wf) #[] wcap] := by
  obtain ⟨a, k, c, rfl⟩ := hv
  go_enter Try.func26, Try.ntmps26
  go_wp2
  go_ret
  have A := Blk.new w 22 #[.slice a k c]
  have B := Blk.new (w.alloc (.cells #[.slice a k c] 22)) 3 #[.int .i64 t]
  have C := Blk.new ((w.alloc (.cells #[.slice a k c] 22)).alloc (.cells #[.int .i64 t] 3)) 3 #[.int .i64 p]
  have D := Blk.new (((w.alloc (.cells #[.slice a k c] 22)).alloc (.cells #[.int .i64 t] 3)).alloc (.cells #[.int .i64 p] 3)) 56 #[.func (.func wf) #[] wcap]
  simp only [World.size_alloc] at B C D
  exact ⟨rfl, ((((Below.refl w.heap.size w).alloc (Nat.le_refl _) _).alloc (by simp) _).alloc (by simp; omega) _).alloc (by simp; omega) _, by simp,
    ((A.alloc _).alloc _).alloc _, (B.alloc _).alloc _, C.alloc _, D⟩

/-- What stands, in turn: a record, an error. -/
abbrev Sm := Rc × Nat
def Enc2 (x : Sm) (ys : Array Value) : Prop := ∃ vt vp, SlV vt ∧ SlV vp ∧ ys = #[recV x.1 vt vp, .int .i64 x.2]
def outOf (l : List Em) : List Sm := (l.filter fun x => !(x.2.2 == 0 && x.2.1.kind == 2)).map fun x => (x.2.1, x.2.2)
theorem outOf_skip {x : Em} (h : x.2.2 = 0 ∧ x.2.1.kind = 2) (l : List Em) : outOf (l ++ [x]) = outOf l := by simp [outOf, h.1, h.2]
theorem outOf_take {x : Em} (h : ¬ (x.2.2 = 0 ∧ x.2.1.kind = 2)) (l : List Em) : outOf (l ++ [x]) = outOf l ++ [(x.2.1, x.2.2)] := by
  have hb : (!(x.2.2 == 0 && x.2.1.kind == 2)) = true := by
    rw [Bool.not_eq_true', Bool.and_eq_false_iff]
    by_cases h1 : x.2.2 = 0
    · exact .inr (by simp; exact fun h2 => h ⟨h1, h2⟩)
    · exact .inl (by simp [h1])
  unfold outOf
  rw [List.filter_append, List.map_append, List.filter_cons_of_pos (p := fun x : Em => !(x.2.2 == 0 && x.2.1.kind == 2)) hb]
  rfl
theorem outOf_prefix {a b : List Em} (h : a <+: b) : outOf a <+: outOf b := by
  obtain ⟨c, rfl⟩ := h
  exact ⟨outOf c, by simp [outOf]⟩

theorem nextsUndone : Nexts 34 true := ⟨fun r vt vp ht hp W => chUndone r vt vp ht hp W, fun args W => enters_of Try.func34 (by kernel_rfl) rfl args W⟩
theorem nextsWritten : Nexts 24 false := ⟨fun r vt vp ht hp W => chWritten r vt vp ht hp W, fun args W => enters_of Try.func24 (by kernel_rfl) rfl args W⟩

attribute [local go_sem] Oper.semAt_some

/-- Of no type that the iterators' own blocks have. -/
def Other (e : TypeId) : Prop := 47 ≠ e ∧ 22 ≠ e ∧ 3 ≠ e ∧ 56 ≠ e ∧ 57 ≠ e ∧ 68 ≠ e

/-- Between two rounds of standing's iterator. -/
structure SeesY (m : Nat) (J : List Sm → World → Prop) (Y L : Nat) (pre : List Em) (W : World) : Prop where
  z : m ≤ W.heap.size
  j : J (outOf pre) W
  y : Blk W Y 68 #[.func (.yield L) #[] #[]]

set_option maxRecDepth 100000 in
set_option maxHeartbeats 8000000 in
theorem chStanding1 {w0 w : World} {v : Value} {l : List En} {t p : Int} {wf : Nat} {wcap : Array Value} {WA : World → Prop} {n b0 : Nat} {e : TypeId} {B1 B2 B3 B4 : Nat} {want : Int → Bool} (k : Nat)
    (hv : IsEnts w0 v l) (hb : Below w0.heap.size w0 w) (h1 : Blk w B1 22 #[v]) (h2 : Blk w B2 3 #[.int .i64 t]) (h3 : Blk w B3 3 #[.int .i64 p]) (h4 : Blk w B4 56 #[.func (.func wf) #[] wcap]) (hwa : WA w)
    (hw : Wants w0.heap.size n b0 e wf wcap want WA) (hn : l.length ≤ 1000) (he : Other e) (hb0 : b0 < w.heap.size) :
    Gives Fence.wide k Try.prog 33 #[.pointer (some ⟨B1, 0, none⟩), .pointer (some ⟨B2, 0, none⟩), .pointer (some ⟨B3, 0, none⟩), .pointer (some ⟨B4, 0, none⟩)]
      Enc2 (Kp w0.heap.size n b0 e) (outOf (fol l t true (stopW want) p)) w := by
  intro L J Jx W hL hW hJ hJx h0 hY
  have HY := Lib.hid hY
  have HJ := Lib.hid hJ
  have HJX := Lib.hid hJx
  have HW := Lib.hid hw
  have HE := Lib.hid he
  have HV := Lib.hid hv
  have SV := Lib.hid (show SlV v from by obtain ⟨a, c, rfl, _⟩ := hv; exact ⟨_, _, _, rfl⟩)
  have hb1 : Below w0.heap.size w0 (W.alloc (.cells #[.func (.yield L) #[] #[]] 68)) := (hb.trans (hW.mono hb.size)).alloc (Nat.le_trans hb.size hW.size) _
  have hBW : b0 < W.heap.size := Nat.lt_of_lt_of_le hb0 hW.size
  have hw1 := hw.more _ _ (hw.more _ _ hwa hW) ((Below.refl W.heap.size W).alloc (Nat.le_refl _) (.cells #[.func (.yield L) #[] #[]] 68))
  have y1 := Blk.new W 68 #[.func (.yield L) #[] #[]]
  have j1 := ownMore hJ h0 ((Below.refl W.heap.size W).alloc (Nat.le_refl _) (.cells #[.func (.yield L) #[] #[]] 68))
  have z1 : (W.alloc (.cells #[.func (.yield L) #[] #[]] 68)).heap.size = W.heap.size + 1 := by simp
  obtain ⟨W1, hW1⟩ : ∃ W1, W1 = W.alloc (.cells #[.func (.yield L) #[] #[]] 68) := ⟨_, rfl⟩
  rw [← hW1] at hb1 hw1 y1 j1 z1
  have HW1 := Lib.hid hW1
  have a1 := h1.keep hW h1.lt
  have a2 := h2.keep hW h2.lt
  have a3 := h3.keep hW h3.lt
  have a4 := h4.keep hW h4.lt
  have l1 := a1.lt
  have l2 := a2.lt
  have l3 := a3.lt
  have l4 := a4.lt
  have c1 := a1.cell 0
  have c2 := a2.cell 0
  have c3 := a3.cell 0
  have c4 := a4.cell 0
  simp only [List.getElem?_toArray, List.getElem?_cons_zero] at c1 c2 c3 c4
  have HB1 := Lib.hid hb1
  have WA1 := Lib.hid hw1
  have Y1 := Lib.hid y1
  have J1 := Lib.hid j1
  clear hY hJ hJx hw he hv h0 hb hW h1 h2 h3 h4 hwa hb1 a1 a2 a3 a4 hw1 y1 j1 hb0 hW1
  have C0 := chFollow v SV.out t p wf 34 wcap W1
  obtain ⟨g, hg⟩ : ∃ g, W1.heap.size = g := ⟨_, rfl⟩
  rw [hg] at C0 z1
  have zl : W.heap.size < g := by omega
  have HG := Lib.hid hg
  have C := Lib.hid C0
  clear C0 z1 hg
  refine callsIn_of_wp_marks Try.func33 rfl trivial ?_ rfl
  simp only [Try.ntmps33, List.size_toArray, List.length_cons, List.length_nil, Nat.reduceAdd, Nat.reduceSub, Array.replicate_succ, Array.replicate_zero, List.push_toArray, List.append_toArray, List.nil_append, List.cons_append]
  gi_wp2_with (refine ⟨trivial, noDepth1 _, ?_⟩; gi_at_call 22; rw [← HW1.out]; refine (callsIn_wide.2 C.out).mono ?_; rintro e w2 ⟨rfl, hb2, hz2, k1, k2, k3, k4, k5⟩)
  have S2 : Sees w0 v l t p wf 34 wcap WA n b0 e g (g + 2) (g + 3) (g + 1) (g + 4) w2 :=
    ⟨HV.out, HB1.out.trans ((hb2.mono (Nat.le_of_eq HG.out)).mono HB1.out.size), ⟨k1, by omega, .inr HE.out.2.1⟩, ⟨k3, by omega, .inr HE.out.2.2.1⟩, ⟨k4, by omega, .inr HE.out.2.2.2.1⟩, ⟨k2, by omega, .inr HE.out.2.2.1⟩, ⟨k5, by omega, .inr HE.out.2.2.2.2.1⟩, HW.out.more _ _ WA1.out (hb2.mono (Nat.le_of_eq HG.out))⟩
  have hb2 : Below W1.heap.size W1 w2 := hb2.mono (Nat.le_of_eq HG.out)
  have hm2 : w0.heap.size ≤ w2.heap.size := Nat.le_trans HB1.out.size hb2.size
  have y2 := Y1.out.keep hb2 Y1.out.lt
  have j2 := ownMore HJ.out J1.out hb2
  have S2H := Lib.hid S2
  have Y2 := Lib.hid y2
  have J2 := Lib.hid j2
  clear S2 y2 j2 k1 k2 k3 k4 k5 hb2 J1 Y1 WA1 HB1
  clear HW1 C
  refine wpIn_gives (F := Fence.wide) rfl (noDepth1 _) (gf := 30) (lb := #[.pointer (some ⟨g, 0, none⟩), .pointer (some ⟨g + 2, 0, none⟩), .pointer (some ⟨g + 3, 0, none⟩), .pointer (some ⟨g + 1, 0, none⟩), .pointer (some ⟨g + 4, 0, none⟩)]) rfl trivial
    (enters_of Try.func30 (by kernel_rfl) rfl) (chFollow1 (k - 1) S2H.out HW.out nextsUndone hn HE.out.1 (by omega)) (fun h k => h.trans k) (fun W l o o' hl hk ho => Kp.put o' (by omega) hk ho) (Below.refl _ _) (fun x ys h => by obtain ⟨_, _, _, _, rfl⟩ := h; rfl)
    (fun pre X => SeesY w0.heap.size J W.heap.size L pre X) (fun pre X => Jx (outOf pre) X)
    (fun x a' pre X => SeesY w0.heap.size J W.heap.size L pre X ∧ ∃ B vt vp, SlV vt ∧ SlV vp ∧ Blk X B 47 (entCells x.1 x.2.1 vt vp) ∧
      a' = { tmps := #[.func (.yield L) #[] #[], .pointer (some ⟨B1, 0, none⟩), .pointer (some ⟨B2, 0, none⟩), .pointer (some ⟨B3, 0, none⟩), .pointer (some ⟨B4, 0, none⟩), .pointer (some ⟨W.heap.size, 0, none⟩), .pointer (some ⟨B, 0, none⟩), .int .i64 x.2.2, v, .int .i64 t, .int .i64 p, .func (.func wf) #[] wcap,
        .func (.func 30) #[] #[.pointer (some ⟨g, 0, none⟩), .pointer (some ⟨g + 2, 0, none⟩), .pointer (some ⟨g + 3, 0, none⟩), .pointer (some ⟨g + 1, 0, none⟩), .pointer (some ⟨g + 4, 0, none⟩)],
        entV x.1 x.2.1 vt vp, .int .i64 x.2.2, undef, undef, undef, undef, undef, undef, undef, undef, undef, undef, undef, undef, undef, undef], defers := [] })
    (fun s A B row hs hg hr => ⟨Nat.le_trans hs.z hg.size, ownMono HJ.out (by omega) _ A B row hs.j hg hr, ownFrom_cells _ _ _ _ _ () A B row hs.y hg hr⟩)
    (fun s A B row hs hg hr => ownMono HJX.out (by omega) _ A B row hs hg hr)
    (fun x a' s A B row hs hg hr => by
      obtain ⟨h1, X, vt, vp, s1, s2, hx, e⟩ := hs
      exact ⟨⟨Nat.le_trans h1.z hg.size, ownMono HJ.out (by omega) _ A B row h1.j hg hr, ownFrom_cells _ _ _ _ _ () A B row h1.y hg hr⟩, X, vt, vp, s1, s2, ownFrom_cells _ _ _ _ _ () A B row hx hg hr, e⟩)
    ⟨hm2, J2.out, Y2.out⟩ ?assign ?body ?done ?stop
  case assign =>
    rintro l' pre x ys X hx ⟨vt, vp, s1, s2, rfl⟩ hI
    have HI := Lib.hid hI
    obtain ⟨ta, tn, tc, rfl⟩ := s1
    obtain ⟨pa, pn, pc, rfl⟩ := s2
    unfold entV entCells
    clear hI
    gi_wp2
    have hb := (Below.refl X.heap.size X).alloc (Nat.le_refl _) (.cells (entCells x.1 x.2.1 (.slice ta tn tc) (.slice pa pn pc)) 47)
    refine ⟨KeepsOthers.alloc _ _, Kp.ofBelow hb HI.out.z, ⟨Nat.le_trans HI.out.z hb.size, ownMore HJ.out HI.out.j hb, HI.out.y.keep hb HI.out.y.lt⟩, X.heap.size, .slice ta tn tc, .slice pa pn pc, ⟨_, _, _, rfl⟩, ⟨_, _, _, rfl⟩, Blk.new X _ _, rfl⟩
  case body =>
    rintro l' pre ⟨q, r, ec⟩ a' X hx ⟨hI, B, vt, vp, s1, s2, hB, rfl⟩
    have HI := Lib.hid hI
    have PX := Lib.hid hx
    have S12 := Lib.hid (And.intro s1 s2)
    have yb := hI.y.cell 0
    simp only [List.getElem?_toArray, List.getElem?_cons_zero] at yb
    obtain ⟨ta, tn, tc, rfl⟩ := s1
    obtain ⟨pa, pn, pc, rfl⟩ := s2
    unfold entCells at hB
    have d1 := hB.cell 1
    have d2 := hB.cell 2
    have d3 := hB.cell 3
    have d4 := hB.cell 4
    have d5 := hB.cell 5
    have d6 := hB.cell 6
    have d7 := hB.cell 7
    have d8 := hB.cell 8
    have d9 := hB.cell 9
    have d10 := hB.cell 10
    have d11 := hB.cell 11
    simp only [List.getElem?_toArray, List.getElem?_cons_zero, List.getElem?_cons_succ] at d1 d2 d3 d4 d5 d6 d7 d8 d9 d10 d11
    unfold entV entCells
    simp only []
    clear hI hx hB
    by_cases hs : ec = 0 ∧ r.kind = 2
    · have ho := Lib.hid (outOf_skip (x := (q, r, ec)) hs pre)
      obtain ⟨h1, h2⟩ := hs
      rw [h2] at d1
      subst h1
      clear h2
      gi_wp2
      exact ⟨KeepsOthers.refl _, Kp.refl _ _ _ _ _, HI.out.z, by rw [ho.out]; exact HI.out.j, HI.out.y⟩
    · have ho := Lib.hid (outOf_take (x := (q, r, ec)) hs pre)
      obtain ⟨fn, tmps, assign, body, hy, hR⟩ := yieldAny rfl (k - 1 - 1 - 1) (HY.out (outOf pre) (r, ec) #[recV r (.slice ta tn tc) (.slice pa pn pc), .int .i64 ec] X (by rw [← ho.out]; exact outOf_prefix PX.out) ⟨_, _, S12.out.1, S12.out.2, rfl⟩ HI.out.j)
      have HR := Lib.hid hR
      unfold recV recCells at hy
      clear hR
      have hk : ((ec : Int) == 0) = true ∧ (r.kind == 2) = false ∨ ((ec : Int) == 0) = false := by
        by_cases h : ec = 0
        · exact .inl ⟨by simp [h], by simp; exact fun h2 => hs ⟨h, h2⟩⟩
        · exact .inr (by simp; omega)
      clear hs
      rcases hk with ⟨hk1, hk2⟩ | hk1
      · gi_wp2
        refine ⟨noDepth1 _, (show RoundIn (Fence.wide.inRound l') _ _ _ _ _ _ _ _ _ from HR.out).mono ?_⟩
        clear hy
        rintro e5 W5 (⟨rfl, hJ5, hk5, ho5⟩ | ⟨rfl, hJx5, hf5⟩)
        · have K5 := Lib.hid (And.intro hJ5 (And.intro hk5 ho5))
          clear hJ5 hk5 ho5 HR
          gi_wp2
          obtain ⟨hJ5, hk5, ho5⟩ := K5.out
          exact ⟨ho5, hk5, Nat.le_trans HI.out.z hk5.old.size, by rw [ho.out]; exact hJ5, hk5.rest _ _ _ HI.out.y (by omega) (.inr HE.out.2.2.2.2.2)⟩
        · have K5 := Lib.hid (And.intro hJx5 hf5)
          clear hJx5 hf5 HR
          gi_wp2
          obtain ⟨hJx5, hf5⟩ := K5.out
          exact ⟨keepsFrom_mono hf5 (by omega), by show Jx (outOf _) _; rw [ho.out]; exact hJx5⟩
      · gi_wp2
        refine ⟨noDepth1 _, (show RoundIn (Fence.wide.inRound l') _ _ _ _ _ _ _ _ _ from HR.out).mono ?_⟩
        clear hy
        rintro e5 W5 (⟨rfl, hJ5, hk5, ho5⟩ | ⟨rfl, hJx5, hf5⟩)
        · have K5 := Lib.hid (And.intro hJ5 (And.intro hk5 ho5))
          clear hJ5 hk5 ho5 HR
          gi_wp2
          obtain ⟨hJ5, hk5, ho5⟩ := K5.out
          exact ⟨ho5, hk5, Nat.le_trans HI.out.z hk5.old.size, by rw [ho.out]; exact hJ5, hk5.rest _ _ _ HI.out.y (by omega) (.inr HE.out.2.2.2.2.2)⟩
        · have K5 := Lib.hid (And.intro hJx5 hf5)
          clear hJx5 hf5 HR
          gi_wp2
          obtain ⟨hJx5, hf5⟩ := K5.out
          exact ⟨keepsFrom_mono hf5 (by omega), by show Jx (outOf _) _; rw [ho.out]; exact hJx5⟩
  case done =>
    intro D X hD hI hX
    gi_wp2
    refine ⟨by simp, .inl ⟨_, _, rfl, run_takeDeferred hX, ?_⟩⟩
    exact ⟨_, results_none rfl _ _ _, ⟨_, rfl⟩, .inl (HJ.out.putObj _ hI.j (by omega) hX rfl)⟩
  case stop =>
    intro D pre X hD hpre hI hX
    gi_wp2
    refine ⟨by simp, .inl ⟨_, _, rfl, run_takeDeferred hX, ?_⟩⟩
    exact ⟨_, results_none rfl _ _ _, ⟨_, rfl⟩, .inr ⟨_, outOf_prefix hpre, HJX.out.putObj _ hI (by omega) hX rfl⟩⟩
end Go.Proofs.Ytecalnglidjmgaa
