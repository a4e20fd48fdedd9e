/- Records that came in as arguments, opened: what they read as. -/
import Derived.Test.YtpcfhpffbogjmaaRecM
import Derived.ProofKit
import Derived.OpenShut
import Derived.Deep.Fields
import Derived.Deep.Slices
import Derived.Lib.SmallJoins
namespace Go.Proofs.Ytpcfhpffbogjmaa
open Go.ChangeShapes Go.WideShapes Go.RowKit
set_option maxRecDepth 100000

section
variable {H : Type} {enc : TypeId × Value → H} {W : World}
theorem cellsInt : Try.prog.cellsOf 3 = 1 := by kernel_rfl
theorem cellsStr : Try.prog.cellsOf 9 = 1 := by kernel_rfl
theorem cellsT : Try.prog.cellsOf 47 = 1 := by kernel_rfl
theorem cellsP : Try.prog.cellsOf 48 = 1 := by kernel_rfl
theorem cellsTxn : Try.prog.cellsOf 91 = 3 := by kernel_rfl
theorem cellsPage : Try.prog.cellsOf 94 = 2 := by kernel_rfl
theorem cellsRec : Try.prog.cellsOf 50 = 11 := by kernel_rfl
theorem read_rows3 {n : Nat} {cs : List Value} {y : DataW H × List MemPlace} (h : DataW.trod enc Try.prog W 0 (fun _ => true) true n 47 cs = some y) :
    ∃ (v : Value) (l : List Row3), cs = [v] ∧ Elems W v l.length (rows3 l) := by
  rcases Deep.open_slice Try.underlying47 h with ⟨rfl, _⟩ | ⟨a, len, cap, m, k, D, Pl, rfl, _, hl, hm, hmm, _, hx⟩
  · exact ⟨_, [], rfl, Elems.nil W⟩
  · simp only [if_true] at hmm
    subst hmm
    have each : ∀ j, j < m → ∃ x : Row3, ∃ b off, a = ⟨b, off, none⟩ ∧ W.cell? ⟨b, off + j * 3 + 0, none⟩ = some (.int .i64 x.1) ∧ W.cell? ⟨b, off + j * 3 + 1, none⟩ = some (.int .i64 x.2.1) ∧ W.cell? ⟨b, off + j * 3 + 2, none⟩ = some (.int .i64 x.2.2) := fun j hj => by
      obtain ⟨cs, hc, ht⟩ := hx j hj
      rw [cellsTxn] at hc
      obtain ⟨xs, k, _, _, _, hxl, hg⟩ := DataW.trod_struct Try.underlying91 ht
      obtain ⟨_, hcl, hat⟩ := World.cells?_some hc
      match cs, hcl with
      | [x0, x1, x2], _ =>
        match xs, hxl with
        | [y0, y1, y2], _ =>
          have g0 : DataW.trod enc Try.prog W 0 (fun _ => true) true k 3 (([x0, x1, x2].drop 0).take (Try.prog.cellsOf 3)) = [y0, y1, y2][0]? := hg 0 _ rfl
          have g1 : DataW.trod enc Try.prog W 0 (fun _ => true) true k 3 (([x0, x1, x2].drop 1).take (Try.prog.cellsOf 3)) = [y0, y1, y2][1]? := hg 1 _ rfl
          have g2 : DataW.trod enc Try.prog W 0 (fun _ => true) true k 3 (([x0, x1, x2].drop 2).take (Try.prog.cellsOf 3)) = [y0, y1, y2][2]? := hg 2 _ rfl
          simp only [cellsInt, List.drop_zero, List.drop_succ_cons, List.take_succ_cons, List.take_zero, List.getElem?_cons_zero, List.getElem?_cons_succ] at g0 g1 g2
          obtain ⟨z0, e0, _, w0⟩ := DataW.trod_int Try.underlying3 g0
          obtain ⟨z1, e1, _, w1⟩ := DataW.trod_int Try.underlying3 g1
          obtain ⟨z2, e2, _, w2⟩ := DataW.trod_int Try.underlying3 g2
          simp only [List.cons.injEq, and_true] at e0 e1 e2
          subst e0 e1 e2
          have c := fun q (hq : q < 3) => hat q hq
          obtain ⟨blk, off, spot⟩ := a
          obtain ⟨cs0, hc0, _⟩ := hx 0 (by omega)
          rw [cellsTxn] at hc0
          obtain ⟨_, hcl0, hat0⟩ := World.cells?_some hc0
          have h0 := (hat0 0 (by omega)).trans (List.getElem?_eq_getElem (by omega))
          have hspot : spot = none := by simpa [Addr.add] using World.cell?_spot h0
          subst hspot
          simp only [add_plain] at c
          exact ⟨(z0, z1, z2), blk, off, rfl, c 0 (by omega), c 1 (by omega), c 2 (by omega)⟩
    haveI : Inhabited Row3 := ⟨(0, 0, 0)⟩
    obtain ⟨f, hf⟩ := Deep.choose_lt (n := len) (p := fun j (x : Row3) => ∃ b off, a = ⟨b, off, none⟩ ∧ W.cell? ⟨b, off + j * 3 + 0, none⟩ = some (.int .i64 x.1) ∧ W.cell? ⟨b, off + j * 3 + 1, none⟩ = some (.int .i64 x.2.1) ∧ W.cell? ⟨b, off + j * 3 + 2, none⟩ = some (.int .i64 x.2.2)) (fun j hj => each j (by omega))
    refine ⟨_, (List.range len).map f, rfl, some a, m, by simp, by simpa using hl, hm, fun j x hj => ?_⟩
    have hjl : j < ((List.range len).map f).length * 3 := by
      have := (List.getElem?_eq_some_iff.1 hj).1
      rwa [rows3_len] at this
    have hq : j / 3 < ((List.range len).map f).length := by omega
    have hql : j / 3 < len := by simpa using hq
    obtain ⟨b, off, e, hc⟩ := hf (j / 3) hql
    obtain ⟨d0, d1, d2⟩ := rows3_at _ _ hq
    have hget : ((List.range len).map f)[j / 3] = f (j / 3) := by simp
    rw [hget] at d0 d1 d2
    obtain ⟨c0, c1, c2⟩ := hc
    refine ⟨b, off, by rw [e], ?_⟩
    have hdis : j = j / 3 * 3 + 0 ∨ j = j / 3 * 3 + 1 ∨ j = j / 3 * 3 + 2 := by omega
    clear hget hql hq
    generalize j / 3 = q at *
    rcases hdis with hj0 | hj1 | hj2
    · rw [hj0] at hj
      rw [Nat.add_zero] at hj
      rw [d0] at hj
      cases hj
      rw [hj0, ← Nat.add_assoc]
      exact c0
    · rw [hj1] at hj
      skip
      rw [d1] at hj
      cases hj
      rw [hj1, ← Nat.add_assoc]
      exact c1
    · rw [hj2] at hj
      skip
      rw [d2] at hj
      cases hj
      rw [hj2, ← Nat.add_assoc]
      exact c2
theorem read_rows2 {n : Nat} {cs : List Value} {y : DataW H × List MemPlace} (h : DataW.trod enc Try.prog W 0 (fun _ => true) true n 48 cs = some y) :
    ∃ (v : Value) (l : List Row2), cs = [v] ∧ Elems W v l.length (rows2 l) := by
  rcases Deep.open_slice Try.underlying48 h with ⟨rfl, _⟩ | ⟨a, len, cap, m, k, D, Pl, rfl, _, hl, hm, hmm, _, hx⟩
  · exact ⟨_, [], rfl, Elems.nil W⟩
  · simp only [if_true] at hmm
    subst hmm
    have each : ∀ j, j < m → ∃ x : Row2, ∃ b off, a = ⟨b, off, none⟩ ∧ W.cell? ⟨b, off + j * 2 + 0, none⟩ = some (.int .i64 x.1) ∧ W.cell? ⟨b, off + j * 2 + 1, none⟩ = some (.int .i64 x.2) := fun j hj => by
      obtain ⟨cs, hc, ht⟩ := hx j hj
      rw [cellsPage] at hc
      obtain ⟨xs, k, _, _, _, hxl, hg⟩ := DataW.trod_struct Try.underlying94 ht
      obtain ⟨_, hcl, hat⟩ := World.cells?_some hc
      match cs, hcl with
      | [x0, x1], _ =>
        match xs, hxl with
        | [y0, y1], _ =>
          have g0 : DataW.trod enc Try.prog W 0 (fun _ => true) true k 3 (([x0, x1].drop 0).take (Try.prog.cellsOf 3)) = [y0, y1][0]? := hg 0 _ rfl
          have g1 : DataW.trod enc Try.prog W 0 (fun _ => true) true k 3 (([x0, x1].drop 1).take (Try.prog.cellsOf 3)) = [y0, y1][1]? := hg 1 _ rfl
          simp only [cellsInt, List.drop_zero, List.drop_succ_cons, List.take_succ_cons, List.take_zero, List.getElem?_cons_zero, List.getElem?_cons_succ] at g0 g1
          obtain ⟨z0, e0, _, w0⟩ := DataW.trod_int Try.underlying3 g0
          obtain ⟨z1, e1, _, w1⟩ := DataW.trod_int Try.underlying3 g1
          simp only [List.cons.injEq, and_true] at e0 e1
          subst e0 e1
          have c := fun q (hq : q < 2) => hat q hq
          obtain ⟨blk, off, spot⟩ := a
          obtain ⟨cs0, hc0, _⟩ := hx 0 (by omega)
          rw [cellsPage] at hc0
          obtain ⟨_, hcl0, hat0⟩ := World.cells?_some hc0
          have h0 := (hat0 0 (by omega)).trans (List.getElem?_eq_getElem (by omega))
          have hspot : spot = none := by simpa [Addr.add] using World.cell?_spot h0
          subst hspot
          simp only [add_plain] at c
          exact ⟨(z0, z1), blk, off, rfl, c 0 (by omega), c 1 (by omega)⟩
    haveI : Inhabited Row2 := ⟨(0, 0)⟩
    obtain ⟨f, hf⟩ := Deep.choose_lt (n := len) (p := fun j (x : Row2) => ∃ b off, a = ⟨b, off, none⟩ ∧ W.cell? ⟨b, off + j * 2 + 0, none⟩ = some (.int .i64 x.1) ∧ W.cell? ⟨b, off + j * 2 + 1, none⟩ = some (.int .i64 x.2)) (fun j hj => each j (by omega))
    refine ⟨_, (List.range len).map f, rfl, some a, m, by simp, by simpa using hl, hm, fun j x hj => ?_⟩
    have hjl : j < ((List.range len).map f).length * 2 := by
      have := (List.getElem?_eq_some_iff.1 hj).1
      rwa [rows2_len] at this
    have hq : j / 2 < ((List.range len).map f).length := by omega
    have hql : j / 2 < len := by simpa using hq
    obtain ⟨b, off, e, hc⟩ := hf (j / 2) hql
    obtain ⟨d0, d1⟩ := rows2_at _ _ hq
    have hget : ((List.range len).map f)[j / 2] = f (j / 2) := by simp
    rw [hget] at d0 d1
    obtain ⟨c0, c1⟩ := hc
    refine ⟨b, off, by rw [e], ?_⟩
    have hdis : j = j / 2 * 2 + 0 ∨ j = j / 2 * 2 + 1 := by omega
    clear hget hql hq
    generalize j / 2 = q at *
    rcases hdis with hj0 | hj1
    · rw [hj0] at hj
      rw [Nat.add_zero] at hj
      rw [d0] at hj
      cases hj
      rw [hj0, ← Nat.add_assoc]
      exact c0
    · rw [hj1] at hj
      skip
      rw [d1] at hj
      cases hj
      rw [hj1, ← Nat.add_assoc]
      exact c1
/-- A record small enough for texts: its texts have lengths. -/
def Sized (r : Rc) : Prop := r.before.size ≤ maxLen ∧ r.after.size ≤ maxLen
/-- The cells of a record. -/
theorem read_rec {n : Nat} {cs : List Value} {y : DataW H × List MemPlace} (hcl : cs.length = 11) (h : DataW.trod enc Try.prog W 0 (fun _ => true) true n 50 cs = some y) :
    ∃ (r : Rc) (vt vp : Value), cs = (recCells r vt vp).toList ∧ Lists W r vt vp ∧ Sized r := by
  obtain ⟨xs, k, _, _, _, hxl, hg⟩ := DataW.trod_struct Try.underlying50 h
  match cs, hcl with
  | [x0, x1, x2, x3, x4, x5, x6, x7, x8, x9, x10], _ =>
    match xs, hxl with
    | [y0, y1, y2, y3, y4, y5, y6, y7, y8, y9, y10], _ =>
      have g0 : DataW.trod enc Try.prog W 0 (fun _ => true) true k 3 (([x0, x1, x2, x3, x4, x5, x6, x7, x8, x9, x10].drop 0).take (Try.prog.cellsOf 3)) = [y0, y1, y2, y3, y4, y5, y6, y7, y8, y9, y10][0]? := hg 0 _ rfl
      have g1 : DataW.trod enc Try.prog W 0 (fun _ => true) true k 3 (([x0, x1, x2, x3, x4, x5, x6, x7, x8, x9, x10].drop 1).take (Try.prog.cellsOf 3)) = [y0, y1, y2, y3, y4, y5, y6, y7, y8, y9, y10][1]? := hg 1 _ rfl
      have g2 : DataW.trod enc Try.prog W 0 (fun _ => true) true k 3 (([x0, x1, x2, x3, x4, x5, x6, x7, x8, x9, x10].drop 2).take (Try.prog.cellsOf 3)) = [y0, y1, y2, y3, y4, y5, y6, y7, y8, y9, y10][2]? := hg 2 _ rfl
      have g3 : DataW.trod enc Try.prog W 0 (fun _ => true) true k 3 (([x0, x1, x2, x3, x4, x5, x6, x7, x8, x9, x10].drop 3).take (Try.prog.cellsOf 3)) = [y0, y1, y2, y3, y4, y5, y6, y7, y8, y9, y10][3]? := hg 3 _ rfl
      have g4 : DataW.trod enc Try.prog W 0 (fun _ => true) true k 3 (([x0, x1, x2, x3, x4, x5, x6, x7, x8, x9, x10].drop 4).take (Try.prog.cellsOf 3)) = [y0, y1, y2, y3, y4, y5, y6, y7, y8, y9, y10][4]? := hg 4 _ rfl
      have g5 : DataW.trod enc Try.prog W 0 (fun _ => true) true k 3 (([x0, x1, x2, x3, x4, x5, x6, x7, x8, x9, x10].drop 5).take (Try.prog.cellsOf 3)) = [y0, y1, y2, y3, y4, y5, y6, y7, y8, y9, y10][5]? := hg 5 _ rfl
      have g6 : DataW.trod enc Try.prog W 0 (fun _ => true) true k 3 (([x0, x1, x2, x3, x4, x5, x6, x7, x8, x9, x10].drop 6).take (Try.prog.cellsOf 3)) = [y0, y1, y2, y3, y4, y5, y6, y7, y8, y9, y10][6]? := hg 6 _ rfl
      have g7 : DataW.trod enc Try.prog W 0 (fun _ => true) true k 9 (([x0, x1, x2, x3, x4, x5, x6, x7, x8, x9, x10].drop 7).take (Try.prog.cellsOf 9)) = [y0, y1, y2, y3, y4, y5, y6, y7, y8, y9, y10][7]? := hg 7 _ rfl
      have g8 : DataW.trod enc Try.prog W 0 (fun _ => true) true k 9 (([x0, x1, x2, x3, x4, x5, x6, x7, x8, x9, x10].drop 8).take (Try.prog.cellsOf 9)) = [y0, y1, y2, y3, y4, y5, y6, y7, y8, y9, y10][8]? := hg 8 _ rfl
      have g9 : DataW.trod enc Try.prog W 0 (fun _ => true) true k 47 (([x0, x1, x2, x3, x4, x5, x6, x7, x8, x9, x10].drop 9).take (Try.prog.cellsOf 47)) = [y0, y1, y2, y3, y4, y5, y6, y7, y8, y9, y10][9]? := hg 9 _ rfl
      have g10 : DataW.trod enc Try.prog W 0 (fun _ => true) true k 48 (([x0, x1, x2, x3, x4, x5, x6, x7, x8, x9, x10].drop 10).take (Try.prog.cellsOf 48)) = [y0, y1, y2, y3, y4, y5, y6, y7, y8, y9, y10][10]? := hg 10 _ rfl
      simp only [cellsInt, cellsStr, cellsT, cellsP, List.drop_zero, List.drop_succ_cons, List.take_succ_cons, List.take_zero, List.getElem?_cons_zero, List.getElem?_cons_succ] at g0 g1 g2 g3 g4 g5 g6 g7 g8 g9 g10
      obtain ⟨z0, e0, _, w0⟩ := DataW.trod_int Try.underlying3 g0
      obtain ⟨z1, e1, _, w1⟩ := DataW.trod_int Try.underlying3 g1
      obtain ⟨z2, e2, _, w2⟩ := DataW.trod_int Try.underlying3 g2
      obtain ⟨z3, e3, _, w3⟩ := DataW.trod_int Try.underlying3 g3
      obtain ⟨z4, e4, _, w4⟩ := DataW.trod_int Try.underlying3 g4
      obtain ⟨z5, e5, _, w5⟩ := DataW.trod_int Try.underlying3 g5
      obtain ⟨z6, e6, _, w6⟩ := DataW.trod_int Try.underlying3 g6
      obtain ⟨z7, e7, _, w7⟩ := DataW.trod_string Try.underlying9 g7
      obtain ⟨z8, e8, _, w8⟩ := DataW.trod_string Try.underlying9 g8
      obtain ⟨z9, l9, e9, r9⟩ := read_rows3 g9
      obtain ⟨z10, l10, e10, r10⟩ := read_rows2 g10
      simp only [List.cons.injEq, and_true] at e0 e1 e2 e3 e4 e5 e6 e7 e8 e9 e10
      subst e0 e1 e2 e3 e4 e5 e6 e7 e8 e9 e10
      exact ⟨⟨z0, z1, z2, z3, z4, z5, z6, z7, z8, l9, l10⟩, x9, x10, rfl, ⟨r9, r10⟩, by simpa [Lit.wf] using w7, by simpa [Lit.wf] using w8⟩
theorem open_rec {b0 : Nat} {r : Reach} {v : Value} {d : DataW H} {p : List MemPlace} (hval : Value.okWide Try.prog W r b0 50 v) (h : DataW.Trod enc Try.prog W 0 (fun _ => true) true 50 v d p) :
    ∃ r, IsRec W v r ∧ Sized r := by
  obtain ⟨cs, rfl, hsz⟩ := okWide_struct Try.underlying50 hval
  obtain ⟨fuel, hf⟩ := h
  rw [cellsRec] at hsz
  obtain ⟨r, vt, vp, e, hl, hs⟩ := read_rec (by simpa [Value.cells] using hsz) hf
  refine ⟨r, ⟨vt, vp, ?_, hl⟩, hs⟩
  have : cs = recCells r vt vp := by
    apply Array.toList_inj.1
    simpa [Value.cells] using e
  rw [this]
  rfl
end
end Go.Proofs.Ytpcfhpffbogjmaa
