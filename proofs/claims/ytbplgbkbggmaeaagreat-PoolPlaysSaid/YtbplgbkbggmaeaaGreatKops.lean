/- Texts that belong together, joined: Open, OpenL, OpenRec, Ops8. -/
import Derived.Test.YtbplgbkbggmaeaaGreatKbase
import Derived.ProofKit
import Derived.OpenShut
import Derived.Laws.FloatArith
import Derived.Deep.Fields
import Derived.Deep.Slices
import Derived.Test.YtbplgbkbggmaeaaGreatKrec
import Derived.Lib.SmallJoins
import Derived.Test.YtbplgbkbggmaeaaGreatKwalb
import Derived.Test.YtbplgbkbggmaeaaGreatKst
namespace Go.Proofs.YtbplgbkbggmaeaaGreat
open Go.ChangeShapes Go.WideShapes Go.RowKit
end Go.Proofs.YtbplgbkbggmaeaaGreat

namespace Go.Proofs.YtbplgbkbggmaeaaGreat
open Go.ChangeShapes Go.WideShapes Go.RowKit
def ListOf {α : Type} (c : Nat) (P : World → List Value → α → Prop) (w : World) (v : Value) (l : List α) : Prop :=
 ∃ (a : Option Addr) (cap : Nat), v = .slice a l.length cap ∧ l.length ≤ cap ∧ cap ≤ maxLen ∧
   ∀ j x, l[j]? = some x → ∃ b off cs, a = some ⟨b, off, none⟩ ∧ b < w.heap.size ∧ P w cs x ∧ ∀ i u, cs[i]? = some u → w.cell? ⟨b, off + j * c + i, none⟩ = some u
theorem ListOf.keep {α : Type} {c : Nat} {P : World → List Value → α → Prop} {w w' : World} {v : Value} {l : List α} (h : ListOf c P w v l) (hP : ∀ cs x, P w cs x → P w' cs x) (hb : Below w.heap.size w w') : ListOf c P w' v l := by
 obtain ⟨a, cap, e, h1, h2, h3⟩ := h
 refine ⟨a, cap, e, h1, h2, fun j x hj => ?_⟩
 obtain ⟨b, off, cs, ea, hlt, hp, hc⟩ := h3 j x hj
 exact ⟨b, off, cs, ea, Nat.lt_of_lt_of_le hlt hb.size, hP _ _ hp, fun i u hu => (hb.cell (p := ⟨b, off + j * c + i, none⟩) hlt).trans (hc i u hu)⟩
theorem ListOf.nil {α : Type} {c : Nat} {P : World → List Value → α → Prop} (w : World) (a : Option Addr) (cap : Nat) (h : cap ≤ maxLen) : ListOf c P w (.slice a 0 cap) [] := ⟨a, cap, rfl, Nat.zero_le _, h, fun j x hj => by simp at hj⟩
theorem ListOf.cases {α : Type} {c : Nat} {P : World → List Value → α → Prop} {w : World} {v : Value} {l : List α} (h : ListOf c P w v l) :
   (l = [] ∧ ∃ a cap, v = .slice a 0 cap) ∨ ∃ b off cap, v = .slice (some ⟨b, off, none⟩) l.length cap ∧ 0 < l.length ∧ l.length ≤ cap ∧ cap ≤ maxLen ∧ b < w.heap.size ∧
     ∀ j (hj : j < l.length), ∃ cs, P w cs l[j] ∧ ∀ i u, cs[i]? = some u → w.cell? ⟨b, off + j * c + i, none⟩ = some u := by
 obtain ⟨a, cap, rfl, h1, h2, h3⟩ := h
 cases l with
 | nil => exact .inl ⟨rfl, a, cap, rfl⟩
 | cons x l =>
   obtain ⟨b, off, _, rfl, hlt, _⟩ := h3 0 x rfl
   refine .inr ⟨b, off, cap, rfl, by simp, h1, h2, hlt, fun j hj => ?_⟩
   obtain ⟨b', off', cs, e, _, hp, hc⟩ := h3 j _ (List.getElem?_eq_getElem hj)
   simp only [Option.some.injEq, Addr.mk.injEq, and_true] at e
   obtain ⟨rfl, rfl⟩ := e
   exact ⟨cs, hp, hc⟩
theorem open_list {H : Type} {enc : TypeId × Value → H} {P : Program} {W : World} {b0 : Nat} {r : Reach} {t e : TypeId} {v : Value} {d : DataW H} {p : List MemPlace} (ht : P.underlying t = some (.slice e)) (c : Nat) (hc0 : 0 < c) (hc : P.cellsOf e = c)
   (hval : Value.okWide P W r b0 t v) (h : DataW.Trod enc P W 0 (fun _ => true) true t v d p) {α : Type} [Inhabited α] (Q : World → List Value → α → Prop)
   (each : ∀ k cs y, cs.length = c → DataW.trod enc P W 0 (fun _ => true) true k e cs = some y → ∃ x, Q W cs x) : ∃ l : List α, ListOf c Q W v l := by
 obtain ⟨a0, len, cap, rfl⟩ := okWide_slice ht hval
 obtain ⟨fuel, hf⟩ := h
 rcases Deep.open_slice ht hf with ⟨hcs, _⟩ | ⟨a, len', cap', m, n, D, Pl, hcs, _, hl, hm, hmm, _, hx⟩
 · simp [Value.cells] at hcs
   obtain ⟨rfl, rfl, rfl⟩ := hcs
   exact ⟨[], ListOf.nil W _ _ (Nat.zero_le _)⟩
 · simp [Value.cells] at hcs
   obtain ⟨rfl, rfl, rfl⟩ := hcs
   simp only [if_true] at hmm
   subst hmm
   have one : ∀ j, j < m → ∃ x : α, ∃ b off cs, a = ⟨b, off, none⟩ ∧ b < W.heap.size ∧ Q W cs x ∧ ∀ i u, cs[i]? = some u → W.cell? ⟨b, off + j * c + i, none⟩ = some u := fun j hj => by
     obtain ⟨cs, hcc, htr⟩ := hx j hj
     rw [hc] at hcc
     obtain ⟨_, hcl, hat⟩ := World.cells?_some hcc
     obtain ⟨x, hx'⟩ := each _ cs _ hcl htr
     obtain ⟨blk, off, spot⟩ := a
     obtain ⟨cs0, hcc0, _⟩ := hx 0 (by omega)
     rw [hc] at hcc0
     obtain ⟨_, hcl0, hat0⟩ := World.cells?_some hcc0
     have h0 := (hat0 0 hc0).trans (List.getElem?_eq_getElem (by omega))
     have hspot : spot = none := by simpa [Addr.add] using World.cell?_spot h0
     subst hspot
     have hlt := World.block_lt_of_cell? W _ h0
     have hb : ((⟨blk, off, none⟩ : Addr).add (0 * c)).block = blk := by simp [Addr.add]
     simp only [add_plain] at hat hlt
     exact ⟨x, blk, off, cs, rfl, hlt, hx', fun i u hu => by
       have hi : i < c := by rw [← hcl]; exact (List.getElem?_eq_some_iff.1 hu).1
       rw [hat i hi, hu]⟩
   obtain ⟨f, hfp⟩ := Deep.choose_lt (n := len) (p := fun j (x : α) => ∃ b off cs, a = ⟨b, off, none⟩ ∧ b < W.heap.size ∧ Q W cs x ∧ ∀ i u, cs[i]? = some u → W.cell? ⟨b, off + j * c + i, none⟩ = some u) (fun j hj => one j (by omega))
   refine ⟨(List.range len).map f, some a, m, by simp, by simpa using hl, hm, fun j x hj => ?_⟩
   rw [List.getElem?_map] at hj
   by_cases g : j < len
   · rw [List.getElem?_range g] at hj
     simp only [Option.map_some, Option.some.injEq] at hj
     subst hj
     obtain ⟨b, off, cs, e, h1, h2, h3⟩ := hfp j g
     exact ⟨b, off, cs, by rw [e], h1, h2, h3⟩
   · rw [List.getElem?_eq_none (by simpa using g)] at hj
     cases hj
end Go.Proofs.YtbplgbkbggmaeaaGreat

namespace Go.Proofs.YtbplgbkbggmaeaaGreat
open Go.ChangeShapes Go.WideShapes Go.RowKit
set_option maxRecDepth 100000
section
variable {H : Type} {enc : TypeId × Value → H} {W : World}
theorem cellsInt : Tryz.prog.cellsOf 3 = 1 := by kernel_rfl
theorem cellsStr : Tryz.prog.cellsOf 9 = 1 := by kernel_rfl
theorem cellsT : Tryz.prog.cellsOf 46 = 1 := by kernel_rfl
theorem cellsP : Tryz.prog.cellsOf 47 = 1 := by kernel_rfl
theorem cellsTxn : Tryz.prog.cellsOf 152 = 3 := by kernel_rfl
theorem cellsPage : Tryz.prog.cellsOf 92 = 2 := by kernel_rfl
theorem cellsRec : Tryz.prog.cellsOf 49 = 11 := by kernel_rfl
theorem read_rows3 {n : Nat} {cs : List Value} {y : DataW H × List MemPlace} (h : DataW.trod enc Tryz.prog W 0 (fun _ => true) true n 46 cs = some y) :
   ∃ (v : Value) (l : List Row3), cs = [v] ∧ Elems W v l.length (rows3 l) := by
 rcases Deep.open_slice Tryz.underlying46 h with ⟨rfl, _⟩ | ⟨a, len, cap, m, k, D, Pl, rfl, _, hl, hm, hmm, _, hx⟩
 · exact ⟨_, [], rfl, Elems.nil W⟩
 · simp only [if_true] at hmm
   subst hmm
   have each : ∀ j, j < m → ∃ x : Row3, ∃ b off, a = ⟨b, off, none⟩ ∧ W.cell? ⟨b, off + j * 3 + 0, none⟩ = some (.int .i64 x.1) ∧ W.cell? ⟨b, off + j * 3 + 1, none⟩ = some (.int .i64 x.2.1) ∧ W.cell? ⟨b, off + j * 3 + 2, none⟩ = some (.int .i64 x.2.2) := fun j hj => by
     obtain ⟨cs, hc, ht⟩ := hx j hj
     rw [cellsTxn] at hc
     obtain ⟨xs, k, _, _, _, hxl, hg⟩ := DataW.trod_struct Tryz.underlying152 ht
     obtain ⟨_, hcl, hat⟩ := World.cells?_some hc
     match cs, hcl with
     | [x0, x1, x2], _ =>
       match xs, hxl with
       | [y0, y1, y2], _ =>
         have g0 : DataW.trod enc Tryz.prog W 0 (fun _ => true) true k 3 (([x0, x1, x2].drop 0).take (Tryz.prog.cellsOf 3)) = [y0, y1, y2][0]? := hg 0 _ rfl
         have g1 : DataW.trod enc Tryz.prog W 0 (fun _ => true) true k 3 (([x0, x1, x2].drop 1).take (Tryz.prog.cellsOf 3)) = [y0, y1, y2][1]? := hg 1 _ rfl
         have g2 : DataW.trod enc Tryz.prog W 0 (fun _ => true) true k 3 (([x0, x1, x2].drop 2).take (Tryz.prog.cellsOf 3)) = [y0, y1, y2][2]? := hg 2 _ rfl
         simp only [cellsInt, List.drop_zero, List.drop_succ_cons, List.take_succ_cons, List.take_zero, List.getElem?_cons_zero, List.getElem?_cons_succ] at g0 g1 g2
         obtain ⟨z0, e0, _, w0⟩ := DataW.trod_int Tryz.underlying3 g0
         obtain ⟨z1, e1, _, w1⟩ := DataW.trod_int Tryz.underlying3 g1
         obtain ⟨z2, e2, _, w2⟩ := DataW.trod_int Tryz.underlying3 g2
         simp only [List.cons.injEq, and_true] at e0 e1 e2
         subst e0 e1 e2
         have c := fun q (hq : q < 3) => hat q hq
         obtain ⟨blk, off, spot⟩ := a
         obtain ⟨cs0, hc0, _⟩ := hx 0 (by omega)
         rw [cellsTxn] at hc0
         obtain ⟨_, hcl0, hat0⟩ := World.cells?_some hc0
         have h0 := (hat0 0 (by omega)).trans (List.getElem?_eq_getElem (by omega))
         have hspot : spot = none := by simpa [Addr.add] using World.cell?_spot h0
         subst hspot
         simp only [add_plain] at c
         exact ⟨(z0, z1, z2), blk, off, rfl, c 0 (by omega), c 1 (by omega), c 2 (by omega)⟩
   haveI : Inhabited Row3 := ⟨(0, 0, 0)⟩
   obtain ⟨f, hf⟩ := Deep.choose_lt (n := len) (p := fun j (x : Row3) => ∃ b off, a = ⟨b, off, none⟩ ∧ W.cell? ⟨b, off + j * 3 + 0, none⟩ = some (.int .i64 x.1) ∧ W.cell? ⟨b, off + j * 3 + 1, none⟩ = some (.int .i64 x.2.1) ∧ W.cell? ⟨b, off + j * 3 + 2, none⟩ = some (.int .i64 x.2.2)) (fun j hj => each j (by omega))
   refine ⟨_, (List.range len).map f, rfl, some a, m, by simp, by simpa using hl, hm, fun j x hj => ?_⟩
   have hjl : j < ((List.range len).map f).length * 3 := by
     have := (List.getElem?_eq_some_iff.1 hj).1
     rwa [rows3_len] at this
   have hq : j / 3 < ((List.range len).map f).length := by omega
   have hql : j / 3 < len := by simpa using hq
   obtain ⟨b, off, e, hc⟩ := hf (j / 3) hql
   obtain ⟨d0, d1, d2⟩ := rows3_at _ _ hq
   have hget : ((List.range len).map f)[j / 3] = f (j / 3) := by simp
   rw [hget] at d0 d1 d2
   obtain ⟨c0, c1, c2⟩ := hc
   refine ⟨b, off, by rw [e], ?_⟩
   have hdis : j = j / 3 * 3 + 0 ∨ j = j / 3 * 3 + 1 ∨ j = j / 3 * 3 + 2 := by omega
   clear hget hql hq
   generalize j / 3 = q at *
   rcases hdis with hj0 | hj1 | hj2
   · rw [hj0] at hj
     rw [Nat.add_zero] at hj
     rw [d0] at hj
     cases hj
     rw [hj0, ← Nat.add_assoc]
     exact c0
   · rw [hj1] at hj
     skip
     rw [d1] at hj
     cases hj
     rw [hj1, ← Nat.add_assoc]
     exact c1
   · rw [hj2] at hj
     skip
     rw [d2] at hj
     cases hj
     rw [hj2, ← Nat.add_assoc]
     exact c2
theorem read_rows2 {n : Nat} {cs : List Value} {y : DataW H × List MemPlace} (h : DataW.trod enc Tryz.prog W 0 (fun _ => true) true n 47 cs = some y) :
   ∃ (v : Value) (l : List Row2), cs = [v] ∧ Elems W v l.length (rows2 l) := by
 rcases Deep.open_slice Tryz.underlying47 h with ⟨rfl, _⟩ | ⟨a, len, cap, m, k, D, Pl, rfl, _, hl, hm, hmm, _, hx⟩
 · exact ⟨_, [], rfl, Elems.nil W⟩
 · simp only [if_true] at hmm
   subst hmm
   have each : ∀ j, j < m → ∃ x : Row2, ∃ b off, a = ⟨b, off, none⟩ ∧ W.cell? ⟨b, off + j * 2 + 0, none⟩ = some (.int .i64 x.1) ∧ W.cell? ⟨b, off + j * 2 + 1, none⟩ = some (.int .i64 x.2) := fun j hj => by
     obtain ⟨cs, hc, ht⟩ := hx j hj
     rw [cellsPage] at hc
     obtain ⟨xs, k, _, _, _, hxl, hg⟩ := DataW.trod_struct Tryz.underlying92 ht
     obtain ⟨_, hcl, hat⟩ := World.cells?_some hc
     match cs, hcl with
     | [x0, x1], _ =>
       match xs, hxl with
       | [y0, y1], _ =>
         have g0 : DataW.trod enc Tryz.prog W 0 (fun _ => true) true k 3 (([x0, x1].drop 0).take (Tryz.prog.cellsOf 3)) = [y0, y1][0]? := hg 0 _ rfl
         have g1 : DataW.trod enc Tryz.prog W 0 (fun _ => true) true k 3 (([x0, x1].drop 1).take (Tryz.prog.cellsOf 3)) = [y0, y1][1]? := hg 1 _ rfl
         simp only [cellsInt, List.drop_zero, List.drop_succ_cons, List.take_succ_cons, List.take_zero, List.getElem?_cons_zero, List.getElem?_cons_succ] at g0 g1
         obtain ⟨z0, e0, _, w0⟩ := DataW.trod_int Tryz.underlying3 g0
         obtain ⟨z1, e1, _, w1⟩ := DataW.trod_int Tryz.underlying3 g1
         simp only [List.cons.injEq, and_true] at e0 e1
         subst e0 e1
         have c := fun q (hq : q < 2) => hat q hq
         obtain ⟨blk, off, spot⟩ := a
         obtain ⟨cs0, hc0, _⟩ := hx 0 (by omega)
         rw [cellsPage] at hc0
         obtain ⟨_, hcl0, hat0⟩ := World.cells?_some hc0
         have h0 := (hat0 0 (by omega)).trans (List.getElem?_eq_getElem (by omega))
         have hspot : spot = none := by simpa [Addr.add] using World.cell?_spot h0
         subst hspot
         simp only [add_plain] at c
         exact ⟨(z0, z1), blk, off, rfl, c 0 (by omega), c 1 (by omega)⟩
   haveI : Inhabited Row2 := ⟨(0, 0)⟩
   obtain ⟨f, hf⟩ := Deep.choose_lt (n := len) (p := fun j (x : Row2) => ∃ b off, a = ⟨b, off, none⟩ ∧ W.cell? ⟨b, off + j * 2 + 0, none⟩ = some (.int .i64 x.1) ∧ W.cell? ⟨b, off + j * 2 + 1, none⟩ = some (.int .i64 x.2)) (fun j hj => each j (by omega))
   refine ⟨_, (List.range len).map f, rfl, some a, m, by simp, by simpa using hl, hm, fun j x hj => ?_⟩
   have hjl : j < ((List.range len).map f).length * 2 := by
     have := (List.getElem?_eq_some_iff.1 hj).1
     rwa [rows2_len] at this
   have hq : j / 2 < ((List.range len).map f).length := by omega
   have hql : j / 2 < len := by simpa using hq
   obtain ⟨b, off, e, hc⟩ := hf (j / 2) hql
   obtain ⟨d0, d1⟩ := rows2_at _ _ hq
   have hget : ((List.range len).map f)[j / 2] = f (j / 2) := by simp
   rw [hget] at d0 d1
   obtain ⟨c0, c1⟩ := hc
   refine ⟨b, off, by rw [e], ?_⟩
   have hdis : j = j / 2 * 2 + 0 ∨ j = j / 2 * 2 + 1 := by omega
   clear hget hql hq
   generalize j / 2 = q at *
   rcases hdis with hj0 | hj1
   · rw [hj0] at hj
     rw [Nat.add_zero] at hj
     rw [d0] at hj
     cases hj
     rw [hj0, ← Nat.add_assoc]
     exact c0
   · rw [hj1] at hj
     skip
     rw [d1] at hj
     cases hj
     rw [hj1, ← Nat.add_assoc]
     exact c1
def Sized (r : Rc) : Prop := r.before.size ≤ maxLen ∧ r.after.size ≤ maxLen
theorem read_rec {n : Nat} {cs : List Value} {y : DataW H × List MemPlace} (hcl : cs.length = 11) (h : DataW.trod enc Tryz.prog W 0 (fun _ => true) true n 49 cs = some y) :
   ∃ (r : Rc) (vt vp : Value), cs = (recCells r vt vp).toList ∧ Lists W r vt vp ∧ Sized r := by
 obtain ⟨xs, k, _, _, _, hxl, hg⟩ := DataW.trod_struct Tryz.underlying49 h
 match cs, hcl with
 | [x0, x1, x2, x3, x4, x5, x6, x7, x8, x9, x10], _ =>
   match xs, hxl with
   | [y0, y1, y2, y3, y4, y5, y6, y7, y8, y9, y10], _ =>
     have g0 : DataW.trod enc Tryz.prog W 0 (fun _ => true) true k 3 (([x0, x1, x2, x3, x4, x5, x6, x7, x8, x9, x10].drop 0).take (Tryz.prog.cellsOf 3)) = [y0, y1, y2, y3, y4, y5, y6, y7, y8, y9, y10][0]? := hg 0 _ rfl
     have g1 : DataW.trod enc Tryz.prog W 0 (fun _ => true) true k 3 (([x0, x1, x2, x3, x4, x5, x6, x7, x8, x9, x10].drop 1).take (Tryz.prog.cellsOf 3)) = [y0, y1, y2, y3, y4, y5, y6, y7, y8, y9, y10][1]? := hg 1 _ rfl
     have g2 : DataW.trod enc Tryz.prog W 0 (fun _ => true) true k 3 (([x0, x1, x2, x3, x4, x5, x6, x7, x8, x9, x10].drop 2).take (Tryz.prog.cellsOf 3)) = [y0, y1, y2, y3, y4, y5, y6, y7, y8, y9, y10][2]? := hg 2 _ rfl
     have g3 : DataW.trod enc Tryz.prog W 0 (fun _ => true) true k 3 (([x0, x1, x2, x3, x4, x5, x6, x7, x8, x9, x10].drop 3).take (Tryz.prog.cellsOf 3)) = [y0, y1, y2, y3, y4, y5, y6, y7, y8, y9, y10][3]? := hg 3 _ rfl
     have g4 : DataW.trod enc Tryz.prog W 0 (fun _ => true) true k 3 (([x0, x1, x2, x3, x4, x5, x6, x7, x8, x9, x10].drop 4).take (Tryz.prog.cellsOf 3)) = [y0, y1, y2, y3, y4, y5, y6, y7, y8, y9, y10][4]? := hg 4 _ rfl
     have g5 : DataW.trod enc Tryz.prog W 0 (fun _ => true) true k 3 (([x0, x1, x2, x3, x4, x5, x6, x7, x8, x9, x10].drop 5).take (Tryz.prog.cellsOf 3)) = [y0, y1, y2, y3, y4, y5, y6, y7, y8, y9, y10][5]? := hg 5 _ rfl
     have g6 : DataW.trod enc Tryz.prog W 0 (fun _ => true) true k 3 (([x0, x1, x2, x3, x4, x5, x6, x7, x8, x9, x10].drop 6).take (Tryz.prog.cellsOf 3)) = [y0, y1, y2, y3, y4, y5, y6, y7, y8, y9, y10][6]? := hg 6 _ rfl
     have g7 : DataW.trod enc Tryz.prog W 0 (fun _ => true) true k 9 (([x0, x1, x2, x3, x4, x5, x6, x7, x8, x9, x10].drop 7).take (Tryz.prog.cellsOf 9)) = [y0, y1, y2, y3, y4, y5, y6, y7, y8, y9, y10][7]? := hg 7 _ rfl
     have g8 : DataW.trod enc Tryz.prog W 0 (fun _ => true) true k 9 (([x0, x1, x2, x3, x4, x5, x6, x7, x8, x9, x10].drop 8).take (Tryz.prog.cellsOf 9)) = [y0, y1, y2, y3, y4, y5, y6, y7, y8, y9, y10][8]? := hg 8 _ rfl
     have g9 : DataW.trod enc Tryz.prog W 0 (fun _ => true) true k 46 (([x0, x1, x2, x3, x4, x5, x6, x7, x8, x9, x10].drop 9).take (Tryz.prog.cellsOf 46)) = [y0, y1, y2, y3, y4, y5, y6, y7, y8, y9, y10][9]? := hg 9 _ rfl
     have g10 : DataW.trod enc Tryz.prog W 0 (fun _ => true) true k 47 (([x0, x1, x2, x3, x4, x5, x6, x7, x8, x9, x10].drop 10).take (Tryz.prog.cellsOf 47)) = [y0, y1, y2, y3, y4, y5, y6, y7, y8, y9, y10][10]? := hg 10 _ rfl
     simp only [cellsInt, cellsStr, cellsT, cellsP, List.drop_zero, List.drop_succ_cons, List.take_succ_cons, List.take_zero, List.getElem?_cons_zero, List.getElem?_cons_succ] at g0 g1 g2 g3 g4 g5 g6 g7 g8 g9 g10
     obtain ⟨z0, e0, _, w0⟩ := DataW.trod_int Tryz.underlying3 g0
     obtain ⟨z1, e1, _, w1⟩ := DataW.trod_int Tryz.underlying3 g1
     obtain ⟨z2, e2, _, w2⟩ := DataW.trod_int Tryz.underlying3 g2
     obtain ⟨z3, e3, _, w3⟩ := DataW.trod_int Tryz.underlying3 g3
     obtain ⟨z4, e4, _, w4⟩ := DataW.trod_int Tryz.underlying3 g4
     obtain ⟨z5, e5, _, w5⟩ := DataW.trod_int Tryz.underlying3 g5
     obtain ⟨z6, e6, _, w6⟩ := DataW.trod_int Tryz.underlying3 g6
     obtain ⟨z7, e7, _, w7⟩ := DataW.trod_string Tryz.underlying9 g7
     obtain ⟨z8, e8, _, w8⟩ := DataW.trod_string Tryz.underlying9 g8
     obtain ⟨z9, l9, e9, r9⟩ := read_rows3 g9
     obtain ⟨z10, l10, e10, r10⟩ := read_rows2 g10
     simp only [List.cons.injEq, and_true] at e0 e1 e2 e3 e4 e5 e6 e7 e8 e9 e10
     subst e0 e1 e2 e3 e4 e5 e6 e7 e8 e9 e10
     exact ⟨⟨z0, z1, z2, z3, z4, z5, z6, z7, z8, l9, l10⟩, x9, x10, rfl, ⟨r9, r10⟩, by simpa [Lit.wf] using w7, by simpa [Lit.wf] using w8⟩
end
end Go.Proofs.YtbplgbkbggmaeaaGreat

namespace Go.Proofs.YtbplgbkbggmaeaaGreat
open Go.ChangeShapes Go.WideShapes Go.RowKit
set_option maxRecDepth 100000
structure Op8 where
 kind : Int
 i : Int
 n : Int
 p : Pag
 r : Rc
def op8Cells (o : Op8) (vt vp : Value) : Array Value := #[.int .i64 o.kind, .int .i64 o.i, .int .i64 o.n, .int .i64 o.p.1, .string o.p.2, .int .i64 o.r.kind, .int .i64 o.r.txn, .int .i64 o.r.page, .int .i64 o.r.off, .int .i64 o.r.prev, .int .i64 o.r.next, .int .i64 o.r.beg, .string o.r.before, .string o.r.after, vt, vp]
theorem op8_toList (o : Op8) (vt vp : Value) : (op8Cells o vt vp).toList = .int .i64 o.kind :: .int .i64 o.i :: .int .i64 o.n :: .int .i64 o.p.1 :: .string o.p.2 :: (recCells o.r vt vp).toList := rfl
structure Op8Wf (o : Op8) : Prop where
 kind : (Lit.int .i64 o.kind).wf = true
 i : (Lit.int .i64 o.i).wf = true
 n : (Lit.int .i64 o.n).wf = true
 at_ : (Lit.int .i64 o.p.1).wf = true
 data : o.p.2.size ≤ maxLen
 sized : Sized o.r
def Op8Q (w : World) (cs : List Value) (o : Op8) : Prop := ∃ vt vp, cs = (op8Cells o vt vp).toList ∧ Lists w o.r vt vp ∧ Op8Wf o
abbrev IsOps8 (w : World) (v : Value) (l : List Op8) : Prop := ListOf 16 Op8Q w v l
theorem Op8Q.keep {w w' : World} {cs : List Value} {o : Op8} (h : Op8Q w cs o) (hb : Below w.heap.size w w') : Op8Q w' cs o := by
 obtain ⟨vt, vp, e, hl, hw⟩ := h
 exact ⟨vt, vp, e, hl.keep hb, hw⟩
theorem IsOps8.keep {w w' : World} {v : Value} {l : List Op8} (h : IsOps8 w v l) (hb : Below w.heap.size w w') : IsOps8 w' v l := ListOf.keep h (fun _ _ hq => hq.keep hb) hb
theorem cellsOp8 : Tryz.prog.cellsOf 51 = 16 := by kernel_rfl
theorem cellsInt8 : Tryz.prog.cellsOf 3 = 1 := by kernel_rfl
theorem cellsStr8 : Tryz.prog.cellsOf 9 = 1 := by kernel_rfl
theorem cellsPage8 : Tryz.prog.cellsOf 45 = 2 := by kernel_rfl
theorem read_op8 {H : Type} {enc : TypeId × Value → H} {W : World} {n : Nat} {cs : List Value} {y : DataW H × List MemPlace} (hcl : cs.length = 16) (h : DataW.trod enc Tryz.prog W 0 (fun _ => true) true n 51 cs = some y) : ∃ o : Op8, Op8Q W cs o := by
 obtain ⟨xs, k, _, _, _, hxl, hg⟩ := DataW.trod_struct Tryz.underlying51 h
 match cs, hcl with
 | [x0, x1, x2, x3, x4, x5, x6, x7, x8, x9, x10, x11, x12, x13, x14, x15], _ =>
   match xs, hxl with
   | [y0, y1, y2, y3, y4], _ =>
     have g0 : DataW.trod enc Tryz.prog W 0 (fun _ => true) true k 3 (([x0, x1, x2, x3, x4, x5, x6, x7, x8, x9, x10, x11, x12, x13, x14, x15].drop 0).take (Tryz.prog.cellsOf 3)) = [y0, y1, y2, y3, y4][0]? := hg 0 _ rfl
     have g1 : DataW.trod enc Tryz.prog W 0 (fun _ => true) true k 3 (([x0, x1, x2, x3, x4, x5, x6, x7, x8, x9, x10, x11, x12, x13, x14, x15].drop 1).take (Tryz.prog.cellsOf 3)) = [y0, y1, y2, y3, y4][1]? := hg 1 _ rfl
     have g2 : DataW.trod enc Tryz.prog W 0 (fun _ => true) true k 3 (([x0, x1, x2, x3, x4, x5, x6, x7, x8, x9, x10, x11, x12, x13, x14, x15].drop 2).take (Tryz.prog.cellsOf 3)) = [y0, y1, y2, y3, y4][2]? := hg 2 _ rfl
     have g3 : DataW.trod enc Tryz.prog W 0 (fun _ => true) true k 45 (([x0, x1, x2, x3, x4, x5, x6, x7, x8, x9, x10, x11, x12, x13, x14, x15].drop 3).take (Tryz.prog.cellsOf 45)) = [y0, y1, y2, y3, y4][3]? := hg 3 _ rfl
     have g4 : DataW.trod enc Tryz.prog W 0 (fun _ => true) true k 49 (([x0, x1, x2, x3, x4, x5, x6, x7, x8, x9, x10, x11, x12, x13, x14, x15].drop 5).take (Tryz.prog.cellsOf 49)) = [y0, y1, y2, y3, y4][4]? := hg 4 _ rfl
     simp only [cellsInt8, cellsPage8, cellsRec, List.drop_zero, List.drop_succ_cons, List.take_succ_cons, List.take_zero, List.getElem?_cons_zero, List.getElem?_cons_succ] at g0 g1 g2 g3 g4
     obtain ⟨z0, e0, _, w0⟩ := DataW.trod_int Tryz.underlying3 g0
     obtain ⟨z1, e1, _, w1⟩ := DataW.trod_int Tryz.underlying3 g1
     obtain ⟨z2, e2, _, w2⟩ := DataW.trod_int Tryz.underlying3 g2
     obtain ⟨r, vt, vp, e5, hl, hs⟩ := read_rec rfl g4
     obtain ⟨ps, k2, _, _, _, hpl, hp⟩ := DataW.trod_struct Tryz.underlying45 g3
     match ps, hpl with
     | [p0, p1], _ =>
       have q0 : DataW.trod enc Tryz.prog W 0 (fun _ => true) true k2 3 (([x3, x4].drop 0).take (Tryz.prog.cellsOf 3)) = [p0, p1][0]? := hp 0 _ rfl
       have q1 : DataW.trod enc Tryz.prog W 0 (fun _ => true) true k2 9 (([x3, x4].drop 1).take (Tryz.prog.cellsOf 9)) = [p0, p1][1]? := hp 1 _ rfl
       simp only [cellsInt8, cellsStr8, List.drop_zero, List.drop_succ_cons, List.take_succ_cons, List.take_zero, List.getElem?_cons_zero, List.getElem?_cons_succ] at q0 q1
       obtain ⟨z3, e3, _, w3⟩ := DataW.trod_int Tryz.underlying3 q0
       obtain ⟨z4, e4, _, w4⟩ := DataW.trod_string Tryz.underlying9 q1
       simp only [List.cons.injEq, and_true] at e0 e1 e2 e3 e4
       subst e0 e1 e2 e3 e4
       refine ⟨⟨z0, z1, z2, (z3, z4), r⟩, vt, vp, ?_, hl, ⟨w0, w1, w2, w3, w4, hs⟩⟩
       rw [op8_toList, ← e5]
theorem open_ops8 {H : Type} {enc : TypeId × Value → H} {W : World} {b0 : Nat} {r : Reach} {v : Value} {d : DataW H} {p : List MemPlace} (hval : Value.okWide Tryz.prog W r b0 24 v) (h : DataW.Trod enc Tryz.prog W 0 (fun _ => true) true 24 v d p) :
   ∃ l, IsOps8 W v l :=
 haveI : Inhabited Op8 := ⟨⟨0, 0, 0, (0, ⟨#[]⟩), Rc.nil⟩⟩
 open_list Tryz.underlying24 16 (by decide) cellsOp8 hval h Op8Q fun _ _ _ hcl ht => read_op8 hcl ht
structure Op8At (w : World) (b o : Nat) (x : Op8) (vt vp : Value) : Prop where
 c0 : w.cell? ⟨b, o, none⟩ = some (.int .i64 x.kind)
 c1 : w.cell? ⟨b, o + 1, none⟩ = some (.int .i64 x.i)
 c2 : w.cell? ⟨b, o + 2, none⟩ = some (.int .i64 x.n)
 c3 : w.cell? ⟨b, o + 3, none⟩ = some (.int .i64 x.p.1)
 c4 : w.cell? ⟨b, o + 4, none⟩ = some (.string x.p.2)
 c5 : w.cell? ⟨b, o + 5, none⟩ = some (.int .i64 x.r.kind)
 c6 : w.cell? ⟨b, o + 6, none⟩ = some (.int .i64 x.r.txn)
 c7 : w.cell? ⟨b, o + 7, none⟩ = some (.int .i64 x.r.page)
 c8 : w.cell? ⟨b, o + 8, none⟩ = some (.int .i64 x.r.off)
 c9 : w.cell? ⟨b, o + 9, none⟩ = some (.int .i64 x.r.prev)
 c10 : w.cell? ⟨b, o + 10, none⟩ = some (.int .i64 x.r.next)
 c11 : w.cell? ⟨b, o + 11, none⟩ = some (.int .i64 x.r.beg)
 c12 : w.cell? ⟨b, o + 12, none⟩ = some (.string x.r.before)
 c13 : w.cell? ⟨b, o + 13, none⟩ = some (.string x.r.after)
 c14 : w.cell? ⟨b, o + 14, none⟩ = some vt
 c15 : w.cell? ⟨b, o + 15, none⟩ = some vp
theorem Op8At.mk' {w : World} {b o : Nat} {x : Op8} {vt vp : Value} (h : ∀ i u, (op8Cells x vt vp)[i]? = some u → w.cell? ⟨b, o + i, none⟩ = some u) : Op8At w b o x vt vp :=
 ⟨h 0 _ rfl, h 1 _ rfl, h 2 _ rfl, h 3 _ rfl, h 4 _ rfl, h 5 _ rfl, h 6 _ rfl, h 7 _ rfl, h 8 _ rfl, h 9 _ rfl, h 10 _ rfl, h 11 _ rfl, h 12 _ rfl, h 13 _ rfl, h 14 _ rfl, h 15 _ rfl⟩
theorem Op8At.keep {w w' : World} {b o : Nat} {x : Op8} {vt vp : Value} (h : Op8At w b o x vt vp) (hb : Below w.heap.size w w') : Op8At w' b o x vt vp := by
 have hlt := World.block_lt_of_cell? w ⟨b, o, none⟩ h.c0
 have k : ∀ x, w'.cell? ⟨b, x, none⟩ = w.cell? ⟨b, x, none⟩ := fun x => hb.cell (p := ⟨b, x, none⟩) hlt
 exact ⟨(k _).trans h.c0, (k _).trans h.c1, (k _).trans h.c2, (k _).trans h.c3, (k _).trans h.c4, (k _).trans h.c5, (k _).trans h.c6, (k _).trans h.c7, (k _).trans h.c8, (k _).trans h.c9, (k _).trans h.c10, (k _).trans h.c11, (k _).trans h.c12, (k _).trans h.c13, (k _).trans h.c14, (k _).trans h.c15⟩
theorem IsOps8.at_ {w : World} {v : Value} {l : List Op8} (h : IsOps8 w v l) (hl : 0 < l.length) : ∃ b off cap, v = .slice (some ⟨b, off, none⟩) l.length cap ∧ l.length ≤ cap ∧ cap ≤ maxLen ∧ b < w.heap.size ∧
   ∀ j (hj : j < l.length), ∃ ta tc pa pc, Lists w l[j].r (.slice ta l[j].r.txns.length tc) (.slice pa l[j].r.pages.length pc) ∧ Op8Wf l[j] ∧ Op8At w b (off + j * 16) l[j] (.slice ta l[j].r.txns.length tc) (.slice pa l[j].r.pages.length pc) := by
 rcases h.cases with ⟨rfl, _⟩ | ⟨b, off, cap, rfl, _, h2, h3, h4, h5⟩
 · simp at hl
 refine ⟨b, off, cap, rfl, h2, h3, h4, fun j hj => ?_⟩
 obtain ⟨cs, ⟨vt, vp, rfl, hl, hw⟩, hc⟩ := h5 j hj
 obtain ⟨ta, tc, e⟩ := hl.t.form
 obtain ⟨pa, pc, e'⟩ := hl.p.form
 subst e e'
 exact ⟨ta, tc, pa, pc, hl, hw, .mk' fun i u hu => hc i u (by rw [Array.getElem?_toList]; exact hu)⟩
def isLong8 (ops : List Op8) : Prop := (∃ o ∈ ops, 500 < o.p.2.size ∨ ¬ Fit o.r) ∨ 200 < ops.length
def op8Zero : Array Value := #[.int .i64 0, .int .i64 0, .int .i64 0, .int .i64 0, .string ⟨#[]⟩, .int .i64 0, .int .i64 0, .int .i64 0, .int .i64 0, .int .i64 0, .int .i64 0, .int .i64 0, .string ⟨#[]⟩, .string ⟨#[]⟩, .slice none 0 0, .slice none 0 0]
set_option maxHeartbeats 16000000 in
theorem long8_any (v : Value) (ops : List Op8) (w : World) (hr : IsOps8 w v ops) (yes : Bool) (hy : yes = true ↔ isLong8 ops) :
   Calls Tryz.prog 8 #[v] w fun e w' => e = .returned (.bool yes) ∧ Below w.heap.size w w' := by
 have HV := Lib.hid hr
 obtain ⟨a, cap, rfl, h1, h2, _⟩ := hr
 have hm : (ops.length : Int) ≤ 9223372036854775807 := by unfold maxLen at h2; omega
 have HY := Lib.hid hy
 clear h1 h2 hy
 go_enter Tryz.func8, Tryz.ntmps8
 go_wp2_with fail
 go_loopw [7] (fun vk wr => ∃ k : Nat, vk = .int .i64 k ∧ k ≤ ops.length ∧ Below w.heap.size w wr ∧ ∀ o ∈ ops.take k, ¬ 500 < o.p.2.size ∧ Fit o.r) (fun vk _ => ops.length - (intOf vk).toNat)
 case atStart => exact ⟨0, rfl, Nat.zero_le _, Below.refl _ _, fun o ho => by simp at ho⟩
 case round =>
   obtain ⟨k, rfl, hk, hB, hall⟩ := hrel
   have HB := Lib.hid hB
   have HALL := Lib.hid hall
   clear hB hall
   by_cases hlt : k < ops.length
   · obtain ⟨b, off, cap', hva, _, _, hbw, hel⟩ := HV.out.at_ (by omega)
     cases hva
     obtain ⟨ta, tc, pa, pc, hls0, hwf, hc⟩ := hel k hlt
     have HLS := Lib.hid (hls0.keep HB.out)
     have HSZ := Lib.hid hwf.sized
     have HIN : Hid (ops[k] ∈ ops) := List.getElem_mem hlt
     have HTK : Hid (ops.take (k + 1) = ops.take k ++ [ops[k]]) := by unfold Hid; rw [List.take_succ_eq_append_getElem hlt]
     have hd : (ops[k].p.2.size : Int) ≤ 9223372036854775807 := by have := hwf.data; unfold maxLen at this; omega
     obtain ⟨c0, c1, c2, c3, c4, c5, c6, c7, c8, c9, c10, c11, c12, c13, c14, c15⟩ := hc.keep HB.out
     clear hls0 hwf hel hc
     generalize ops[k] = o at *
     have hn := Blk.new wr 51 op8Zero
     have N3 := hn.setRow (op8Cells o (.slice ta o.r.txns.length tc) (.slice pa o.r.pages.length pc))
     have hb3 : Below wr.heap.size wr ((wr.alloc (.cells op8Zero 51)).setRow wr.heap.size (op8Cells o (.slice ta o.r.txns.length tc) (.slice pa o.r.pages.length pc))) := below_setRow ((Below.refl _ _).alloc (Nat.le_refl _) _) (Nat.le_refl _) _
     have HB3 := Lib.hid (below2 HB.out hb3)
     have HLS3 := Lib.hid (HLS.out.keep hb3)
     go_upto_region 4 with (refine wpList_store_row rfl 51 _ _ rfl wr.heap.size _ rfl rfl 51 _ hn (by kernel_rfl) rfl (by simp [Value.oneCell']) ?_)
     clear hn hb3 c0 c1 c2 c3 c4 c5 c6 c7 c8 c9 c10 c11 c12 c13 c14 c15 HLS HB hbw
     change Code.wp _ _ _ _ ((wr.alloc (.cells op8Zero 51)).setRow wr.heap.size (op8Cells o (.slice ta o.r.txns.length tc) (.slice pa o.r.pages.length pc)))
     generalize (wr.alloc (.cells op8Zero 51)).setRow wr.heap.size (op8Cells o (.slice ta o.r.txns.length tc) (.slice pa o.r.pages.length pc)) = w3 at *
     generalize wr.heap.size = x at *
     have IR : Hid (IsRec w3 (.agg (recCells o.r (.slice ta o.r.txns.length tc) (.slice pa o.r.pages.length pc))) o.r) := ⟨_, _, rfl, HLS3.out⟩
     have d4 : w3.cell? ⟨x, 4, none⟩ = some (.string o.p.2) := N3.cell 4
     have d5 : w3.cell? ⟨x, 5, none⟩ = some (.int .i64 o.r.kind) := N3.cell 5
     have d6 : w3.cell? ⟨x, 6, none⟩ = some (.int .i64 o.r.txn) := N3.cell 6
     have d7 : w3.cell? ⟨x, 7, none⟩ = some (.int .i64 o.r.page) := N3.cell 7
     have d8 : w3.cell? ⟨x, 8, none⟩ = some (.int .i64 o.r.off) := N3.cell 8
     have d9 : w3.cell? ⟨x, 9, none⟩ = some (.int .i64 o.r.prev) := N3.cell 9
     have d10 : w3.cell? ⟨x, 10, none⟩ = some (.int .i64 o.r.next) := N3.cell 10
     have d11 : w3.cell? ⟨x, 11, none⟩ = some (.int .i64 o.r.beg) := N3.cell 11
     have d12 : w3.cell? ⟨x, 12, none⟩ = some (.string o.r.before) := N3.cell 12
     have d13 : w3.cell? ⟨x, 13, none⟩ = some (.string o.r.after) := N3.cell 13
     have d14 : w3.cell? ⟨x, 14, none⟩ = some (.slice ta o.r.txns.length tc) := N3.cell 14
     have d15 : w3.cell? ⟨x, 15, none⟩ = some (.slice pa o.r.pages.length pc) := N3.cell 15
     by_cases hp2 : 500 < o.p.2.size
     · have hp3 : (500 : Int) < o.p.2.size := by omega
       have hyes : yes = true := HY.out.2 (.inl ⟨o, HIN.out, .inl hp2⟩)
       clear hp2
       go_wp2
       go_ret
       exact ⟨by first | rfl | (rw [hyes]; rfl), HB3.out⟩
     · have hp3 : ¬ (500 : Int) < o.p.2.size := by omega
       have HP2 := Lib.hid hp2
       clear hp2
       by_cases hf : Fit o.r
       · have FEW := Lib.hid (few_yes IR.out hf)
         have HF := Lib.hid hf
         clear hf
         go_wp2_with fail
         refine FEW.out.mono ?_
         rintro e w4 ⟨rfl, hb4⟩
         have HB4 := Lib.hid (below2 HB3.out hb4)
         have HALL2 : Hid (∀ q ∈ ops.take (k + 1), ¬ 500 < q.p.2.size ∧ Fit q.r) := fun q hq => by
           rw [HTK.out] at hq
           rcases List.mem_append.1 hq with hq | hq
           · exact HALL.out q hq
           · simp at hq; subst hq; exact ⟨HP2.out, HF.out⟩
         clear hb4 HB3 N3 HLS3 IR FEW HALL d4 d5 d6 d7 d8 d9 d10 d11 d12 d13 d14 d15
         go_wp2
         go_roundw
         case rel => exact ⟨k + 1, by go_num, by omega, HB4.out, HALL2.out⟩
         case measure => simp [intOf]; omega
       · have FEW := Lib.hid (few_no IR.out HSZ.out hf)
         have hyes : yes = true := HY.out.2 (.inl ⟨o, HIN.out, .inr hf⟩)
         clear hf
         go_wp2_with fail
         refine FEW.out.mono ?_
         rintro e w4 ⟨rfl, hb4⟩
         have HB4 := Lib.hid (below2 HB3.out hb4)
         clear hb4 HB3 N3 HLS3 IR FEW d4 d5 d6 d7 d8 d9 d10 d11 d12 d13 d14 d15
         go_wp2
         go_ret
         exact ⟨by first | rfl | (rw [hyes]; rfl), HB4.out⟩
   · obtain rfl : k = ops.length := by omega
     have hyes : yes = decide ((200 : Int) < ops.length) := by
       have hall := HALL.out
       rw [List.take_length] at hall
       have h2 : isLong8 ops ↔ (200 : Int) < ops.length := by
         unfold isLong8
         constructor
         · rintro (⟨o, ho, h⟩ | h)
           · have := hall o ho
             rcases h with h | h
             · exact absurd h this.1
             · exact absurd this.2 h
           · omega
         · intro h; exact .inr (by omega)
       by_cases h : (200 : Int) < ops.length
       · rw [decide_eq_true h]; exact HY.out.2 (h2.2 h)
       · rw [decide_eq_false h]
         cases hyy : yes with
         | true => exact absurd (h2.1 (HY.out.1 hyy)) h
         | false => rfl
     go_wp2
     go_ret
     exact ⟨by rw [hyes]; rfl, HB.out⟩
end Go.Proofs.YtbplgbkbggmaeaaGreat
