/- Package chain: what an iterator's rounds keep; follow, and the iterator that it makes. -/
import Derived.RangeFuncBound
import Derived.RangeFuncCalls
import Derived.Shelf.Abstract
import Derived.Shelf.RegionOpen
import Derived.OwnWalkIn
import Derived.TacticsInMore
import Derived.LoopNIn
import Derived.LoopIn
import Derived.Test.YtecalnglidjmgaaGives
import Derived.Test.YtecalnglidjmgaaChF
namespace Go.Proofs.Ytecalnglidjmgaa
open Go.RowKit Go.Shelf

/-- What a round keeps: all that lay ahead of all; of the rest all cells but the box b0, and but what is of type e and lies from n on. -/
structure Kp (m n b0 : Nat) (e : TypeId) (W W' : World) : Prop where
  old : Below m W W'
  rest : ∀ b cs t, Blk W b t cs → b ≠ b0 → (b < n ∨ t ≠ e) → Blk W' b t cs
namespace Kp
variable {m n b0 : Nat} {e : TypeId} {A B C : World}
theorem refl (m n b0 : Nat) (e : TypeId) (W : World) : Kp m n b0 e W W := ⟨Below.refl _ _, fun _ _ _ h _ _ => h⟩
theorem trans (h : Kp m n b0 e A B) (k : Kp m n b0 e B C) : Kp m n b0 e A C := ⟨h.old.trans k.old, fun b cs t hb h1 h2 => k.rest b cs t (h.rest b cs t hb h1 h2) h1 h2⟩
theorem put {W : World} {l : Nat} {o : Obj} (o' : Obj) (hm : m ≤ l) (h : W.heap[l]? = some o) (ho : o.isCells = false) : Kp m n b0 e W (W.putObj l o') :=
  ⟨(Below.refl m W).grown (grownBy_putObj' W l o') (by have := (Array.getElem?_eq_some_iff.1 h).1; omega) (fun k e => by cases e; omega), fun b cs t hb _ _ => by
    have hne : b ≠ l := fun e => by subst e; rw [show W.heap[b]? = _ from hb] at h; cases h; cases ho
    exact (World.putObj_heap_other hne).trans hb⟩
theorem ofBelow (h : Below A.heap.size A B) (hm : m ≤ A.heap.size) : Kp m n b0 e A B := ⟨h.mono hm, fun _ _ _ hb _ _ => hb.keep h hb.lt⟩
end Kp

/-- What is told in turn: a place, its record, an error. -/
abbrev Em := Int × Rc × Nat
def Enc1 (x : Em) (ys : Array Value) : Prop := ∃ vt vp, SlV vt ∧ SlV vp ∧ ys = #[entV x.1 x.2.1 vt vp, .int .i64 x.2.2]
def stopW (want : Int → Bool) (p : Int) : Bool := p == 0 || !want p
/-- As follow; as the last thing the error, if there is one. -/
def fol0 (l : List En) (t : Int) (md : Bool) (stop : Int → Bool) (p : Int) : List Em :=
  (Ch.follow l t md stop p).1.map (fun x => (x.1, x.2, 0)) ++ (if (Ch.follow l t md stop p).2 = 0 then [] else [(0, Rc.nil, (Ch.follow l t md stop p).2)])
def fol (l : List En) (t : Int) (md : Bool) (stop : Int → Bool) (p : Int) : List Em := if Ch.Rises l then fol0 l t md stop p else [(0, Rc.nil, 3)]
section
variable {l : List En} {t p : Int} {md : Bool} {stop : Int → Bool} {r : Rc} {n : Nat}
theorem fol0_stop (h : stop p = true) : fol0 l t md stop p = [] := by unfold fol0; rw [Ch.follow_stop h]; rfl
theorem fol0_step (h : stop p = false) (hr : Ch.at_ l t p = (r, 0)) : fol0 l t md stop p = (p, r, 0) :: fol0 l t md stop (Ch.nxt md r) := by unfold fol0; rw [Ch.follow_step h hr]; rfl
theorem fol0_err (h : stop p = false) (hr : Ch.at_ l t p = (r, n)) (hn : n ≠ 0) : fol0 l t md stop p = [(0, Rc.nil, n)] := by unfold fol0; rw [Ch.follow_err h hr hn]; simp [hn]
end

theorem five (w : World) (a b c d e : Array Value) (ta tb tc td te : TypeId) : let w' := ((((w.alloc (.cells a ta)).alloc (.cells b tb)).alloc (.cells c tc)).alloc (.cells d td)).alloc (.cells e te)
    Below w.heap.size w w' ∧ w'.heap.size = w.heap.size + 5 ∧ Blk w' w.heap.size ta a ∧ Blk w' (w.heap.size + 1) tb b ∧ Blk w' (w.heap.size + 2) tc c ∧ Blk w' (w.heap.size + 3) td d ∧ Blk w' (w.heap.size + 4) te e := by
  have A := Blk.new w ta a
  have B := Blk.new (w.alloc (.cells a ta)) tb b
  have C := Blk.new ((w.alloc (.cells a ta)).alloc (.cells b tb)) tc c
  have D := Blk.new (((w.alloc (.cells a ta)).alloc (.cells b tb)).alloc (.cells c tc)) td d
  have E := Blk.new ((((w.alloc (.cells a ta)).alloc (.cells b tb)).alloc (.cells c tc)).alloc (.cells d td)) te e
  simp only [World.size_alloc] at B C D E
  exact ⟨(((((Below.refl w.heap.size w).alloc (Nat.le_refl _) _).alloc (by simp) _).alloc (by simp; omega) _).alloc (by simp; omega) _).alloc (by simp; omega) _, by simp,
    (((A.alloc _).alloc _).alloc _).alloc _, ((B.alloc _).alloc _).alloc _, (C.alloc _).alloc _, D.alloc _, E⟩
set_option maxRecDepth 100000 in
theorem chFollow (v : Value) (hv : SlV v) (t p : Int) (wf nf : Nat) (wcap : Array Value) (w : World) :
    Calls Try.prog 22 #[v, .int .i64 t, .int .i64 p, .func (.func wf) #[] wcap, .func (.func nf) #[] #[]] w fun e w' =>
      e = .returned (.func (.func 30) #[] #[.pointer (some ⟨w.heap.size, 0, none⟩), .pointer (some ⟨w.heap.size + 2, 0, none⟩), .pointer (some ⟨w.heap.size + 3, 0, none⟩), .pointer (some ⟨w.heap.size + 1, 0, none⟩), .pointer (some ⟨w.heap.size + 4, 0, none⟩)]) ∧
      Below w.heap.size w w' ∧ w'.heap.size = w.heap.size + 5 ∧ Blk w' w.heap.size 22 #[v] ∧ Blk w' (w.heap.size + 1) 3 #[.int .i64 t] ∧ Blk w' (w.heap.size + 2) 3 #[.int .i64 p] ∧
      Blk w' (w.heap.size + 3) 56 #[.func (.func wf) #[] wcap] ∧ Blk w' (w.heap.size + 4) 57 #[.func (.func nf) #[] #[]] := by
  obtain ⟨a, k, c, rfl⟩ := hv
  go_enter Try.func22, Try.ntmps22
  go_wp2
  go_ret
  exact ⟨rfl, five w _ _ _ _ _ _ _ _ _ _⟩

/-- What tells whether a place is wanted: its function's value, what it stands on, what it answers. -/
structure Wants (m n b0 : Nat) (e : TypeId) (wf : Nat) (wcap : Array Value) (want : Int → Bool) (WA : World → Prop) : Prop where
  kp : ∀ W W', WA W → Kp m n b0 e W W' → WA W'
  more : ∀ W W', WA W → Below W.heap.size W W' → WA W'
  calls : ∀ W q, WA W → Calls Try.prog wf (#[.int .i64 q] ++ wcap) W fun e w' => e = .returned (.bool (want q)) ∧ W = w'
  enters : ∀ args W, (callFunc wf args).run Try.prog W = .ok (.enter wf args) W
/-- What tells where it goes on. -/
structure Nexts (nf : Nat) (md : Bool) : Prop where
  calls : ∀ (r : Rc) (vt vp : Value), SlV vt → SlV vp → ∀ W, Calls Try.prog nf #[recV r vt vp] W fun e w' => e = .returned (.int .i64 (Ch.nxt md r)) ∧ Below W.heap.size W w'
  enters : ∀ args W, (callFunc nf args).run Try.prog W = .ok (.enter nf args) W
/-- A block that a round keeps. -/
def Safe (n b0 : Nat) (e : TypeId) (b t : Nat) : Prop := b ≠ b0 ∧ (b < n ∨ t ≠ e)
/-- All that follow's iterator reads. -/
structure Sees (w0 : World) (v : Value) (l : List En) (t p : Int) (wf nf : Nat) (wcap : Array Value) (WA : World → Prop) (n b0 : Nat) (e : TypeId) (B1 B2 B3 B4 B5 : Nat) (W : World) : Prop where
  ents : IsEnts w0 v l
  below : Below w0.heap.size w0 W
  h1 : Blk W B1 22 #[v] ∧ Safe n b0 e B1 22
  h2 : Blk W B2 3 #[.int .i64 p] ∧ Safe n b0 e B2 3
  h3 : Blk W B3 56 #[.func (.func wf) #[] wcap] ∧ Safe n b0 e B3 56
  h4 : Blk W B4 3 #[.int .i64 t] ∧ Safe n b0 e B4 3
  h5 : Blk W B5 57 #[.func (.func nf) #[] #[]] ∧ Safe n b0 e B5 57
  wa : WA W
namespace Sees
variable {w0 : World} {v : Value} {l : List En} {t p : Int} {wf nf : Nat} {wcap : Array Value} {WA : World → Prop} {n b0 : Nat} {e : TypeId} {B1 B2 B3 B4 B5 : Nat} {W W' : World} {want : Int → Bool}
theorem kp (h : Sees w0 v l t p wf nf wcap WA n b0 e B1 B2 B3 B4 B5 W) (hw : Wants w0.heap.size n b0 e wf wcap want WA) (k : Kp w0.heap.size n b0 e W W') : Sees w0 v l t p wf nf wcap WA n b0 e B1 B2 B3 B4 B5 W' :=
  ⟨h.ents, h.below.trans k.old, ⟨k.rest _ _ _ h.h1.1 h.h1.2.1 h.h1.2.2, h.h1.2⟩, ⟨k.rest _ _ _ h.h2.1 h.h2.2.1 h.h2.2.2, h.h2.2⟩, ⟨k.rest _ _ _ h.h3.1 h.h3.2.1 h.h3.2.2, h.h3.2⟩, ⟨k.rest _ _ _ h.h4.1 h.h4.2.1 h.h4.2.2, h.h4.2⟩, ⟨k.rest _ _ _ h.h5.1 h.h5.2.1 h.h5.2.2, h.h5.2⟩, hw.kp _ _ h.wa k⟩
theorem more (h : Sees w0 v l t p wf nf wcap WA n b0 e B1 B2 B3 B4 B5 W) (hw : Wants w0.heap.size n b0 e wf wcap want WA) (k : Below W.heap.size W W') : Sees w0 v l t p wf nf wcap WA n b0 e B1 B2 B3 B4 B5 W' :=
  h.kp hw (.ofBelow k h.below.size)
theorem isEnts (h : Sees w0 v l t p wf nf wcap WA n b0 e B1 B2 B3 B4 B5 W) : IsEnts W v l := h.ents.keep h.below
end Sees

theorem noDepth (k : Nat) : Fence.wide.depth.isSome = true → k ≤ 0 := fun h => by cases h
theorem noDepth1 (k : Nat) : Fence.wide.depth.isSome = true → 1 ≤ k := fun h => by cases h

attribute [local go_sem] Oper.semAt_some

set_option maxRecDepth 100000 in
set_option maxHeartbeats 8000000 in
theorem chFollow1 {w0 w : World} {v : Value} {l : List En} {t p : Int} {wf nf : Nat} {wcap : Array Value} {WA : World → Prop} {n b0 : Nat} {e : TypeId} {B1 B2 B3 B4 B5 : Nat} {want : Int → Bool} {md : Bool} (k : Nat)
    (hS : Sees w0 v l t p wf nf wcap WA n b0 e B1 B2 B3 B4 B5 w) (hw : Wants w0.heap.size n b0 e wf wcap want WA) (hnx : Nexts nf md) (hn : l.length ≤ 1000) (h47 : 47 ≠ e) (hb0 : b0 < w.heap.size) :
    Gives Fence.wide k Try.prog 30 #[.pointer (some ⟨B1, 0, none⟩), .pointer (some ⟨B2, 0, none⟩), .pointer (some ⟨B3, 0, none⟩), .pointer (some ⟨B4, 0, none⟩), .pointer (some ⟨B5, 0, none⟩)]
      Enc1 (Kp w0.heap.size n b0 e) (fol l t md (stopW want) p) w := by
  intro L J Jx W _ hW hJ hJx h0 hY
  have S := hS.more hw hW
  have HY := Lib.hid hY
  have HJ := Lib.hid hJ
  have HJX := Lib.hid hJx
  have HS := Lib.hid S
  have HW := Lib.hid hw
  have HNX := Lib.hid hnx
  have H0 := Lib.hid h0
  have hBW : b0 < W.heap.size := Nat.lt_of_lt_of_le hb0 hW.size
  have hwe := hw.enters
  have hne := hnx.enters
  have c1 := S.h1.1.cell 0
  have c2 := S.h2.1.cell 0
  simp only [List.getElem?_toArray, List.getElem?_cons_zero] at c1 c2
  clear hY hJ hJx S hw hnx h0 hS hW
  refine callsIn_of_wp Try.func30 rfl trivial ?_ rfl
  simp only [Try.ntmps30, List.size_toArray, List.length_cons, List.length_nil, Nat.reduceAdd, Nat.reduceSub, Array.replicate_succ, Array.replicate_zero, List.push_toArray, List.append_toArray, List.nil_append, List.cons_append]
  by_cases hr : Ch.Rises l
  · have C := Lib.hid (chRise HS.out.isEnts true (decide_eq_true hr).symm)
    gi_wp2_with (refine ⟨trivial, noDepth1 _, ?_⟩; gi_at_call 31; refine (callsIn_wide.2 C.out).mono ?_; rintro e w1 ⟨rfl, hb1⟩; have S1 := HS.out.more HW.out hb1; have c2 := S1.h2.1.cell 0; simp only [List.getElem?_toArray, List.getElem?_cons_zero] at c2; have HS1 := Lib.hid S1; have J1 := ownMore HJ.out H0.out hb1; have HJ1 := Lib.hid J1; have hz1 := Nat.lt_of_lt_of_le hBW hb1.size; have hw1 := hb1.size; clear S1 J1 hb1 C)
    have ef : fol l t md (stopW want) p = fol0 l t md (stopW want) p := if_pos hr
    have EF := Lib.hid ef
    have HR := Lib.hid hr
    clear ef hr c1 c2
    gi_loopw [7] (fun va wr => ∃ (pre : List Em) (q : Int), va = .int .i64 q ∧ fol l t md (stopW want) p = pre ++ fol0 l t md (stopW want) q ∧ J pre wr ∧ Sees w0 v l t p wf nf wcap WA n b0 e B1 B2 B3 B4 B5 wr ∧ b0 < wr.heap.size ∧ W.heap.size ≤ wr.heap.size) (fun va _ => Ch.rank l (intOf va))
    case atStart => exact ⟨[], p, rfl, EF.out, HJ1.out, HS1.out, hz1, hw1⟩
    case round =>
      obtain ⟨pre, q, rfl, hpre, hJp, hSw, hzr, hwr⟩ := hrel
      have c3 := hSw.h3.1.cell 0
      simp only [List.getElem?_toArray, List.getElem?_cons_zero] at c3
      have PRE := Lib.hid hpre
      have HJP := Lib.hid hJp
      have HSW := Lib.hid hSw
      clear hpre hJp hSw HS1 HJ1 hz1 hw1 EF HS
      by_cases hq : q = 0
      · subst hq
        gi_wp2
        refine ⟨fun _ h => (by cases h), ?_⟩
        gi_wp2
        go_end0
        have h1 := PRE.out
        rw [fol0_stop (by unfold stopW; rfl), List.append_nil] at h1
        exact ⟨⟨_, rfl⟩, .inl (by rw [h1]; exact HJP.out)⟩
      · cases hwq : want q with
        | false =>
          gi_wp2_with (refine ⟨trivial, noDepth1 _, ?_⟩; refine (callsIn_wide.2 (HW.out.calls wr q HSW.out.wa)).mono ?_; rintro e w2 ⟨rfl, rfl⟩; rw [hwq])
          go_end0
          have h1 := PRE.out
          rw [fol0_stop (by unfold stopW; rw [hwq]; simp), List.append_nil] at h1
          exact ⟨⟨_, rfl⟩, .inl (by rw [h1]; exact HJP.out)⟩
        | true =>
          have hsq : stopW want q = false := by unfold stopW; rw [hwq]; simp [hq]
          have HSQ := Lib.hid hsq
          have c1 := HSW.out.h1.1.cell 0
          have c4 := HSW.out.h4.1.cell 0
          simp only [List.getElem?_toArray, List.getElem?_cons_zero] at c1 c4
          have C0 := chFind HSW.out.isEnts HR.out hn t q
          clear hsq
          rcases hat : Ch.at_ l t q with ⟨r, k⟩
          by_cases hk : k = 0
          · subst hk
            have C := Lib.hid (C0.mono (R' := fun e w' => Below wr.heap.size wr w' ∧ ∃ vt vp, Lists wr r vt vp ∧ e = .returned (.tuple #[entV q r vt vp, .int .i64 0])) (by
              rintro e w' ⟨hb, ⟨r', vt, vp, h1, h2, h3⟩ | ⟨r', k', h0, h1, _⟩⟩
              · rw [hat] at h1
                obtain ⟨rfl, _⟩ := Prod.mk.inj h1
                exact ⟨hb, vt, vp, h2, h3⟩
              · rw [hat] at h1
                exact absurd (Prod.mk.inj h1).2.symm h0))
            have HAT := Lib.hid hat
            clear hat C0
            gi_wp2_with (first
              | (refine ⟨trivial, noDepth1 _, ?_⟩; gi_at_call 32; refine (callsIn_wide.2 C.out).mono ?_; clear C; rintro e w2 ⟨hb2, vt, vp, hl, rfl⟩; have SV := Lib.hid (And.intro hl.t.sl hl.p.sl); obtain ⟨ta, tc, rfl⟩ := hl.t.form; obtain ⟨pa, pc, rfl⟩ := hl.p.form; clear hl; unfold entV entCells)
              | (refine ⟨trivial, noDepth1 _, ?_⟩; refine (callsIn_wide.2 (HW.out.calls wr q HSW.out.wa)).mono ?_; rintro e w2 ⟨rfl, rfl⟩; rw [hwq]))
            obtain ⟨X, hX⟩ : ∃ X : Array Value, X = #[.int .i64 q, .int .i64 r.kind, .int .i64 r.txn, .int .i64 r.page, .int .i64 r.off, .int .i64 r.prev, .int .i64 r.next, .int .i64 r.beg, .string r.before, .string r.after, .slice ta r.txns.length tc, .slice pa r.pages.length pc] := ⟨_, rfl⟩
            obtain ⟨W4, hW4⟩ : ∃ W4, W4 = w2.alloc (.cells X 47) := ⟨_, rfl⟩
            have x4 : Blk W4 w2.heap.size 47 X := by rw [hW4]; exact Blk.new w2 _ _
            have b4 : Below wr.heap.size wr W4 := by rw [hW4]; exact hb2.alloc hb2.size _
            rw [hX] at hW4
            rw [← hW4]
            have hnext : fol l t md (stopW want) p = (pre ++ [(q, r, 0)]) ++ fol0 l t md (stopW want) (Ch.nxt md r) := by
              rw [PRE.out, fol0_step HSQ.out HAT.out]; simp
            obtain ⟨fn, tmps, assign, body, hy, hR⟩ := HY.out pre (q, r, 0) #[entV q r (.slice ta r.txns.length tc) (.slice pa r.pages.length pc), .int .i64 0] W4 ⟨_, hnext.symm⟩ ⟨_, _, SV.out.1, SV.out.2, rfl⟩ (ownMore HJ.out HJP.out b4)
            have S4 := Lib.hid (HSW.out.more HW.out b4)
            have HR4 := Lib.hid hR
            have HN := Lib.hid hnext
            have HXX := Lib.hid hX
            have hz4 : b0 < w2.heap.size := Nat.lt_of_lt_of_le hzr hb2.size
            have HB4 := Lib.hid b4
            have X4 := Lib.hid x4
            unfold entV entCells at hy
            clear hX hW4 b4 hb2 hR hnext PRE HJP HSW c1 c3 c4 hwq x4
            rw [hy]
            gi_wp2
            refine ⟨noDepth1 _, HR4.out.mono ?_⟩
            clear hy
            rintro e5 W5 (⟨rfl, hJ5, hk5, _⟩ | ⟨rfl, hJx5, _⟩)
            · have S5 := S4.out.kp HW.out hk5
              have x5 := hk5.rest _ _ _ X4.out (by omega) (.inr h47)
              have z5 : b0 < W5.heap.size := by
                have := hk5.rest _ _ _ X4.out (by omega) (.inr h47)
                exact Nat.lt_of_lt_of_le hz4 (Nat.le_of_lt this.lt)
              have zw5 : W.heap.size ≤ W5.heap.size := Nat.le_trans hwr (Nat.le_trans HB4.out.size hk5.old.size)
              have c5 := S5.h5.1.cell 0
              simp only [List.getElem?_toArray, List.getElem?_cons_zero] at c5
              rw [HXX.out] at x5
              have d1 := x5.cell 1
              have d2 := x5.cell 2
              have d3 := x5.cell 3
              have d4 := x5.cell 4
              have d5 := x5.cell 5
              have d6 := x5.cell 6
              have d7 := x5.cell 7
              have d8 := x5.cell 8
              have d9 := x5.cell 9
              have d10 := x5.cell 10
              have d11 := x5.cell 11
              simp only [List.getElem?_toArray, List.getElem?_cons_zero, List.getElem?_cons_succ] at d1 d2 d3 d4 d5 d6 d7 d8 d9 d10 d11
              have SS := Lib.hid S5
              have JJ := Lib.hid hJ5
              clear S5 hJ5 hk5 x5 S4 X4 HB4 HR4
              have CN := HNX.out.calls r _ _ SV.out.1 SV.out.2 W5
              unfold recV recCells at CN
              have CNN := Lib.hid CN
              clear CN
              gi_wp2_with (refine ⟨trivial, noDepth1 _, ?_⟩; refine (callsIn_wide.2 CNN.out).mono ?_; rintro e6 W6 ⟨rfl, hb6⟩; have S6 := Lib.hid (SS.out.more HW.out hb6); have J6 := Lib.hid (ownMore HJ.out JJ.out hb6); have z6 := Nat.lt_of_lt_of_le z5 hb6.size; have zw6 := Nat.le_trans zw5 hb6.size; clear hb6 SS JJ CNN c5 d1 d2 d3 d4 d5 d6 d7 d8 d9 d10 d11)
              go_roundw
              case rel => exact ⟨pre ++ [(q, r, 0)], Ch.nxt md r, rfl, HN.out, J6.out, S6.out, z6, zw6⟩
              case measure =>
                have hz := Ch.at_zero HAT.out
                exact Ch.rank_lt (x := (q, r)) hz.1 (Ch.nxt_lt hz.2.2 md)
            · gi_wp2
              refine bodyPost_ret (results_none rfl _ _ _) rfl ?_
              exact ⟨⟨_, rfl⟩, .inr ⟨_, ⟨_, HN.out.symm⟩, hJx5⟩⟩
          · have C := Lib.hid (C0.mono (R' := fun e w' => Below wr.heap.size wr w' ∧ e = .returned (.tuple #[entV 0 .nil (.slice none 0 0) (.slice none 0 0), .int .i64 k])) (by
              rintro e w' ⟨hb, ⟨r', vt, vp, h1, h2, h3⟩ | ⟨r', k', h0, h1, h2⟩⟩
              · rw [hat] at h1
                exact absurd (Prod.mk.inj h1).2 hk
              · rw [hat] at h1
                obtain ⟨_, rfl⟩ := Prod.mk.inj h1
                exact ⟨hb, h2⟩))
            have HAT := Lib.hid hat
            have hkb : ((k : Int) != 0) = true := by simp; omega
            clear hat C0
            gi_wp2_with (first
              | (refine ⟨trivial, noDepth1 _, ?_⟩; gi_at_call 32; refine (callsIn_wide.2 C.out).mono ?_; clear C; rintro e w2 ⟨hb2, rfl⟩; unfold entV entCells Rc.nil)
              | (refine ⟨trivial, noDepth1 _, ?_⟩; refine (callsIn_wide.2 (HW.out.calls wr q HSW.out.wa)).mono ?_; rintro e w2 ⟨rfl, rfl⟩; rw [hwq]))
            obtain ⟨W4, hW4⟩ : ∃ W4, W4 = w2.alloc (.cells #[.int .i64 0, .int .i64 0, .int .i64 0, .int .i64 0, .int .i64 0, .int .i64 0, .int .i64 0, .int .i64 0, .string ⟨#[]⟩, .string ⟨#[]⟩, .slice none 0 0, .slice none 0 0] 47) := ⟨_, rfl⟩
            have b4 : Below wr.heap.size wr W4 := by rw [hW4]; exact hb2.alloc hb2.size _
            rw [← hW4]
            have hend : fol l t md (stopW want) p = pre ++ [(0, Rc.nil, k)] := by rw [PRE.out, fol0_err HSQ.out HAT.out hk]
            obtain ⟨fn, tmps, assign, body, hy, hR⟩ := HY.out pre (0, Rc.nil, k) #[entV 0 Rc.nil (.slice none 0 0) (.slice none 0 0), .int .i64 k] W4 ⟨[], by rw [hend]; simp⟩ ⟨_, _, .nil, .nil, rfl⟩ (ownMore HJ.out HJP.out b4)
            have HR4 := Lib.hid hR
            have HEND := Lib.hid hend
            unfold entV entCells Rc.nil at hy
            clear hW4 b4 hb2 hR hend PRE HJP HSW c1 c3 c4 hwq
            rw [hy]
            gi_wp2
            refine ⟨noDepth1 _, HR4.out.mono ?_⟩
            clear hy
            rintro e5 W5 (⟨rfl, hJ5, hk5, _⟩ | ⟨rfl, hJx5, _⟩)
            · have JJ := Lib.hid hJ5
              clear hJ5 hk5
              gi_wp2
              refine bodyPost_ret (results_none rfl _ _ _) rfl ?_
              exact ⟨⟨_, rfl⟩, .inl (by rw [HEND.out]; exact JJ.out)⟩
            · gi_wp2
              refine bodyPost_ret (results_none rfl _ _ _) rfl ?_
              exact ⟨⟨_, rfl⟩, .inr ⟨_, ⟨[], by rw [HEND.out]; simp⟩, hJx5⟩⟩
  · have C := Lib.hid (chRise HS.out.isEnts false (decide_eq_false hr).symm)
    have hend : fol l t md (stopW want) p = [(0, Rc.nil, 3)] := if_neg hr
    gi_wp2_with (refine ⟨trivial, noDepth1 _, ?_⟩; gi_at_call 31; refine (callsIn_wide.2 C.out).mono ?_; rintro e w1 ⟨rfl, hb1⟩)
    obtain ⟨fn, tmps, assign, body, hy, hR⟩ := HY.out [] (0, Rc.nil, 3) #[entV 0 Rc.nil (.slice none 0 0) (.slice none 0 0), .int .i64 3] w1 ⟨[], by rw [hend]; simp⟩ ⟨_, _, .nil, .nil, rfl⟩ (ownMore HJ.out H0.out hb1)
    have HR4 := Lib.hid hR
    have HEND := Lib.hid hend
    unfold entV entCells Rc.nil at hy
    clear hR hend hb1 C
    rw [hy]
    gi_wp2
    refine ⟨noDepth1 _, HR4.out.mono ?_⟩
    clear hy
    rintro e5 W5 (⟨rfl, hJ5, hk5, _⟩ | ⟨rfl, hJx5, _⟩)
    · have JJ := Lib.hid hJ5
      clear hJ5 hk5
      gi_wp2
      refine bodyPost_ret (results_none rfl _ _ _) rfl ?_
      exact ⟨⟨_, rfl⟩, .inl (by rw [HEND.out]; exact JJ.out)⟩
    · gi_wp2
      refine bodyPost_ret (results_none rfl _ _ _) rfl ?_
      exact ⟨⟨_, rfl⟩, .inr ⟨_, ⟨[], by rw [HEND.out]; simp⟩, hJx5⟩⟩
end Go.Proofs.Ytecalnglidjmgaa
