/- Package analysis: change, in memory. -/
import Derived.Test.YtgjkhjlobfblcaaAsB
namespace Go.Proofs.Ytgjkhjlobfblcaa
open Go.RowKit Go.MapKept
set_option linter.unusedSimpArgs false

/-- What a call that writes the two maps leaves. -/
def OutA (w : World) (mt mp : Nat) (s : An.Ta) (e : Ending) (w' : World) : Prop := (∃ v, e = .returned v) ∧ IsTa w' mt mp s ∧ Only (Two mt mp) w w'
theorem twoBox (w : World) (a b : Array Value) (ta tb : TypeId) : let w' := (w.alloc (.cells a ta)).alloc (.cells b tb)
    Below w.heap.size w w' ∧ w'.heap.size = w.heap.size + 2 ∧ Blk w' w.heap.size ta a ∧ Blk w' (w.heap.size + 1) tb b := by
  have A := Blk.new w ta a
  have B := Blk.new (w.alloc (.cells a ta)) tb b
  simp only [World.size_alloc] at B
  exact ⟨((Below.refl w.heap.size w).alloc (Nat.le_refl _) _).alloc (by simp) _, by simp, A.alloc _, B⟩
/-- The rows of a change. -/
def chT (s : An.Ta) (n p : Int) : An.TF := An.put s.t n (some (An.newT (s.t n) p))
def chP (s : An.Ta) (n p : Int) : An.PF := An.put s.p n (some (An.newP (s.p n) p))
theorem chP_same {s : An.Ta} {n p v : Int} (h : s.p n = some v) : chP s n p = s.p := by
  funext c
  unfold chP An.put
  by_cases hc : c = n
  · subst hc; rw [if_pos rfl, h]; rfl
  · rw [if_neg hc]
set_option maxRecDepth 100000 in
set_option maxHeartbeats 8000000 in
theorem asChange {w : World} {mt mp : Nat} {s : An.Ta} (h : IsTa w mt mp s) (p : Int) (r : Rc) (vt vp : Value) (ht : SlV vt) (hp : SlV vp) :
    Calls Try.prog 23 #[stV mt mp, entV p r vt vp] w (OutA w mt mp ⟨chT s r.txn p, chP s r.page p⟩) := by
  obtain ⟨ta, tn, tc, rfl⟩ := ht
  obtain ⟨pa, pn, pc, rfl⟩ := hp
  unfold entV entCells stV
  obtain ⟨kx, hk⟩ : ∃ kx, kx = r.kind := ⟨_, rfl⟩
  obtain ⟨tx, htx⟩ : ∃ tx, tx = r.txn := ⟨_, rfl⟩
  obtain ⟨px, hpx⟩ : ∃ px, px = r.page := ⟨_, rfl⟩
  rw [← hk, ← htx, ← hpx]
  obtain ⟨hb, hz, k0, k1⟩ := twoBox w #[.map (some mt), .map (some mp)] #[.int .i64 p, .int .i64 kx, .int .i64 tx, .int .i64 px, .int .i64 r.off, .int .i64 r.prev, .int .i64 r.next, .int .i64 r.beg, .string r.before, .string r.after, .slice ta tn tc, .slice pa pn pc] 54 30
  have hx := h.keep hb
  clear h
  clear hk htx hpx
  go_enter Try.func23, Try.ntmps23
  go_upto_region 1 with fail
  generalize (w.alloc (Obj.cells #[.map (some mt), .map (some mp)] 54)).alloc (Obj.cells #[.int .i64 p, .int .i64 kx, .int .i64 tx, .int .i64 px, .int .i64 r.off, .int .i64 r.prev, .int .i64 r.next, .int .i64 r.beg, .string r.before, .string r.after, .slice ta tn tc, .slice pa pn pc] 30) = wx at *
  have hzw : w.heap.size + 2 = wx.heap.size := hz.symm
  obtain ⟨g, hg⟩ : ∃ g, w.heap.size = g := ⟨_, rfl⟩
  have HB := Lib.hid hb
  rw [hg] at k0 k1 hz ⊢
  have HG := Lib.hid hg
  have HZW := Lib.hid hzw
  clear hg hb hzw
  have c0 := k0.cell 0
  have c1 := k0.cell 1
  have d0 := k1.cell 0
  have d1 := k1.cell 2
  have d2 := k1.cell 3
  simp only [List.getElem?_toArray, List.getElem?_cons_zero, List.getElem?_cons_succ] at c0 c1 d0 d1 d2
  have lk := hx.lookT_ tx
  have HX := Lib.hid hx
  have K0 := Lib.hid k0
  have K1 := Lib.hid k1
  clear hx k0 k1
  cases hf : s.t tx with
  | none =>
    have HT : Hid (chT s tx p = An.put s.t tx (some (p, p))) := by unfold chT; rw [hf]; rfl
    unfold lookT at lk
    rw [hf] at lk
    simp only [Option.isSome_none, Option.isSome_some, tV] at lk
    clear hf
    go_upto_region 5 with fail
    have r5 := Blk.new wx 44 #[.int .i64 tx, .int .i64 p, .int .i64 p]
    have b5 : Below wx.heap.size wx (wx.alloc (.cells #[.int .i64 tx, .int .i64 p, .int .i64 p] 44)) := (Below.refl _ _).alloc (Nat.le_refl _) _
    rw [hz] at r5 b5
    generalize wx.alloc (Obj.cells #[.int .i64 tx, .int .i64 p, .int .i64 p] 44) = w5 at *
    have q0 := K0.out.keep b5 (by omega)
    have q1 := K1.out.keep b5 (by omega)
    have c0 := q0.cell 0
    have c1 := q0.cell 1
    have d0 := q1.cell 0
    have d1 := q1.cell 2
    have d2 := q1.cell 3
    have e0 := r5.cell 0
    have e1 := r5.cell 1
    have e2 := r5.cell 2
    simp only [List.getElem?_toArray, List.getElem?_cons_zero, List.getElem?_cons_succ] at c0 c1 d0 d1 d2 e0 e1 e2
    have B5 : Hid (Below wx.heap.size wx w5) := by rw [hz]; exact b5
    have X5 := HX.out.keep B5.out
    obtain ⟨w6, u6, x6, o6, z6⟩ := X5.putT tx (p, p)
    simp only at u6
    have N0 : ¬ Two mt mp g := X5.cells1 q0
    have N1 : ¬ Two mt mp (g + 1) := X5.cells1 q1
    go_upto_region 6 with fail
    have q0 := o6.blk q0 N0
    have q1 := o6.blk q1 N1
    have c0 := q0.cell 0
    have c1 := q0.cell 1
    have d0 := q1.cell 0
    have d1 := q1.cell 2
    have d2 := q1.cell 3
    simp only [List.getElem?_toArray, List.getElem?_cons_zero, List.getElem?_cons_succ] at c0 c1 d0 d1 d2
    have lp := x6.lookP_ px
    have X6 := Lib.hid x6
    have O6 := Lib.hid (((Only.ofBelow (S := Two mt mp) HB.out).more B5.out).trans o6)
    have Q0 := Lib.hid q0
    have Q1 := Lib.hid q1
    clear X5 o6 x6 u6 b5 r5 e0 e1 e2 q0 q1 K0 K1 B5 HB lk N0 N1 HX
    cases hp : s.p px with
    | none =>
      have HP : Hid (chP s px p = An.put s.p px (some p)) := by unfold chP; rw [hp]; rfl
      unfold lookP at lp
      simp only at lp
      rw [hp] at lp
      simp only [Option.isSome_none] at lp
      clear hp
      go_upto_region 8 with fail
      have b8 : Below w6.heap.size w6 (w6.alloc (.cells #[.int .i64 0, .int .i64 0] 42)) := (Below.refl _ _).alloc (Nat.le_refl _) _
      generalize w6.alloc (Obj.cells #[.int .i64 0, .int .i64 0] 42) = w8 at *
      have q0 := Q0.out.keep b8 Q0.out.lt
      have q1 := Q1.out.keep b8 Q1.out.lt
      have c0 := q0.cell 0
      have c1 := q0.cell 1
      have d0 := q1.cell 0
      have d1 := q1.cell 2
      have d2 := q1.cell 3
      simp only [List.getElem?_toArray, List.getElem?_cons_zero, List.getElem?_cons_succ] at c0 c1 d0 d1 d2
      obtain ⟨w9, u9, x9, o9, z9⟩ := (X6.out.keep b8).putP px p
      have X9 := Lib.hid x9
      have O9 := Lib.hid ((O6.out.more b8).trans o9)
      clear x9 o9 q0 q1
      go_wp2
      go_end0
      refine ⟨⟨_, rfl⟩, ?_, O9.out⟩
      rw [HT.out, HP.out]
      exact X9.out
    | some u =>
      have HP : Hid (chP s px p = s.p) := chP_same hp
      unfold lookP at lp
      simp only at lp
      rw [hp] at lp
      simp only [Option.isSome_some, pV] at lp
      clear hp
      go_wp2
      go_end0
      refine ⟨⟨_, rfl⟩, ?_, O6.out.alloc _⟩
      rw [HT.out, HP.out]
      exact X6.out.alloc _
  | some v =>
    have HT : Hid (chT s tx p = An.put s.t tx (some (v.1, p))) := by unfold chT; rw [hf]; rfl
    unfold lookT at lk
    rw [hf] at lk
    simp only [Option.isSome_none, Option.isSome_some, tV] at lk
    clear hf
    go_upto_region 5 with fail
    have r5 := Blk.new wx 44 #[.int .i64 tx, .int .i64 v.1, .int .i64 p]
    have b5 : Below wx.heap.size wx (wx.alloc (.cells #[.int .i64 tx, .int .i64 v.1, .int .i64 p] 44)) := (Below.refl _ _).alloc (Nat.le_refl _) _
    rw [hz] at r5 b5
    generalize wx.alloc (Obj.cells #[.int .i64 tx, .int .i64 v.1, .int .i64 p] 44) = w5 at *
    have q0 := K0.out.keep b5 (by omega)
    have q1 := K1.out.keep b5 (by omega)
    have c0 := q0.cell 0
    have c1 := q0.cell 1
    have d0 := q1.cell 0
    have d1 := q1.cell 2
    have d2 := q1.cell 3
    have e0 := r5.cell 0
    have e1 := r5.cell 1
    have e2 := r5.cell 2
    simp only [List.getElem?_toArray, List.getElem?_cons_zero, List.getElem?_cons_succ] at c0 c1 d0 d1 d2 e0 e1 e2
    have B5 : Hid (Below wx.heap.size wx w5) := by rw [hz]; exact b5
    have X5 := HX.out.keep B5.out
    obtain ⟨w6, u6, x6, o6, z6⟩ := X5.putT tx (v.1, p)
    simp only at u6
    have N0 : ¬ Two mt mp g := X5.cells1 q0
    have N1 : ¬ Two mt mp (g + 1) := X5.cells1 q1
    go_upto_region 6 with fail
    have q0 := o6.blk q0 N0
    have q1 := o6.blk q1 N1
    have c0 := q0.cell 0
    have c1 := q0.cell 1
    have d0 := q1.cell 0
    have d1 := q1.cell 2
    have d2 := q1.cell 3
    simp only [List.getElem?_toArray, List.getElem?_cons_zero, List.getElem?_cons_succ] at c0 c1 d0 d1 d2
    have lp := x6.lookP_ px
    have X6 := Lib.hid x6
    have O6 := Lib.hid (((Only.ofBelow (S := Two mt mp) HB.out).more B5.out).trans o6)
    have Q0 := Lib.hid q0
    have Q1 := Lib.hid q1
    clear X5 o6 x6 u6 b5 r5 e0 e1 e2 q0 q1 K0 K1 B5 HB lk N0 N1 HX
    cases hp : s.p px with
    | none =>
      have HP : Hid (chP s px p = An.put s.p px (some p)) := by unfold chP; rw [hp]; rfl
      unfold lookP at lp
      simp only at lp
      rw [hp] at lp
      simp only [Option.isSome_none] at lp
      clear hp
      go_upto_region 8 with fail
      have b8 : Below w6.heap.size w6 (w6.alloc (.cells #[.int .i64 0, .int .i64 0] 42)) := (Below.refl _ _).alloc (Nat.le_refl _) _
      generalize w6.alloc (Obj.cells #[.int .i64 0, .int .i64 0] 42) = w8 at *
      have q0 := Q0.out.keep b8 Q0.out.lt
      have q1 := Q1.out.keep b8 Q1.out.lt
      have c0 := q0.cell 0
      have c1 := q0.cell 1
      have d0 := q1.cell 0
      have d1 := q1.cell 2
      have d2 := q1.cell 3
      simp only [List.getElem?_toArray, List.getElem?_cons_zero, List.getElem?_cons_succ] at c0 c1 d0 d1 d2
      obtain ⟨w9, u9, x9, o9, z9⟩ := (X6.out.keep b8).putP px p
      have X9 := Lib.hid x9
      have O9 := Lib.hid ((O6.out.more b8).trans o9)
      clear x9 o9 q0 q1
      go_wp2
      go_end0
      refine ⟨⟨_, rfl⟩, ?_, O9.out⟩
      rw [HT.out, HP.out]
      exact X9.out
    | some u =>
      have HP : Hid (chP s px p = s.p) := chP_same hp
      unfold lookP at lp
      simp only at lp
      rw [hp] at lp
      simp only [Option.isSome_some, pV] at lp
      clear hp
      go_wp2
      go_end0
      refine ⟨⟨_, rfl⟩, ?_, O6.out.alloc _⟩
      rw [HT.out, HP.out]
      exact X6.out.alloc _
end Go.Proofs.Ytgjkhjlobfblcaa
