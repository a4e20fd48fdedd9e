/- careenlaw03: operations that came in. -/
import Derived.Test.YtapkelnpkonmpaaOpen
import Derived.Test.YtapkelnpkonmpaaDiskM
import Derived.Deep.Fields
namespace Go.Proofs.Ytapkelnpkonmpaa
open Go.ChangeShapes Go.WideShapes Go.RowKit

structure OpD where
  kind : Int
  i : Int
  n : Int
  s : UInt8
  pv : Value
  picks : List UInt8
/-- An operation in memory. -/
structure OpAt (w : World) (b off : Nat) (o : OpD) : Prop where
  c0 : w.cell? ⟨b, off, none⟩ = some (.int .i64 o.kind)
  c1 : w.cell? ⟨b, off + 1, none⟩ = some (.int .i64 o.i)
  c2 : w.cell? ⟨b, off + 2, none⟩ = some (.int .i64 o.n)
  c3 : w.cell? ⟨b, off + 3, none⟩ = some (.int .u8 (o.s.toNat : Int))
  c4 : w.cell? ⟨b, off + 4, none⟩ = some o.pv
  picks : Reads w o.pv (byteVs o.picks)
  n_wf : (Lit.int .i64 o.n).wf = true
  i_wf : (Lit.int .i64 o.i).wf = true
def ReadsOps (w : World) (v : Value) (ops : List OpD) : Prop :=
  ∃ (a : Option Addr) (cap : Nat), v = .slice a ops.length cap ∧ ops.length ≤ cap ∧ cap ≤ maxLen ∧ ∀ j o, ops[j]? = some o → ∃ b off, a = some ⟨b, off, none⟩ ∧ OpAt w b (off + j * 5) o
theorem OpAt.keep {w w' : World} {b off : Nat} {o : OpD} (h : OpAt w b off o) (hb : Below w.heap.size w w') : OpAt w' b off o := by
  have hlt := World.block_lt_of_cell? w ⟨b, off, none⟩ h.c0
  have k : ∀ x, w'.cell? ⟨b, x, none⟩ = w.cell? ⟨b, x, none⟩ := fun x => hb.cell (p := ⟨b, x, none⟩) hlt
  exact ⟨(k _).trans h.c0, (k _).trans h.c1, (k _).trans h.c2, (k _).trans h.c3, (k _).trans h.c4, h.picks.keep hb, h.n_wf, h.i_wf⟩
theorem ReadsOps.keep {w w' : World} {v : Value} {ops : List OpD} (h : ReadsOps w v ops) (hb : Below w.heap.size w w') : ReadsOps w' v ops := by
  obtain ⟨a, cap, rfl, h1, h2, h3⟩ := h
  refine ⟨a, cap, rfl, h1, h2, fun j o hj => ?_⟩
  obtain ⟨b, off, rfl, h⟩ := h3 j o hj
  exact ⟨b, off, rfl, h.keep hb⟩
theorem ReadsOps.cases {w : World} {v : Value} {ops : List OpD} (h : ReadsOps w v ops) :
    (ops = [] ∧ ∃ a cap, v = .slice a 0 cap) ∨ ∃ b off cap, v = .slice (some ⟨b, off, none⟩) ops.length cap ∧ 0 < ops.length ∧ ops.length ≤ cap ∧ cap ≤ maxLen ∧ b < w.heap.size ∧ ∀ j (hj : j < ops.length), OpAt w b (off + j * 5) ops[j] := by
  obtain ⟨a, cap, rfl, h1, h2, h3⟩ := h
  cases ops with
  | nil => exact .inl ⟨rfl, a, cap, rfl⟩
  | cons o r =>
    obtain ⟨b, off, rfl, h0⟩ := h3 0 o rfl
    refine .inr ⟨b, off, cap, rfl, by simp, h1, h2, World.block_lt_of_cell? w ⟨b, off + 0 * 5, none⟩ h0.c0, fun j hj => ?_⟩
    obtain ⟨b', off', e, h⟩ := h3 j _ (List.getElem?_eq_getElem hj)
    simp only [Option.some.injEq, Addr.mk.injEq, and_true] at e
    obtain ⟨rfl, rfl⟩ := e
    exact h

theorem cellsByte3 : Try.prog.cellsOf 5 = 1 := by kernel_rfl
theorem cellsOp : Try.prog.cellsOf 33 = 5 := by kernel_rfl
theorem open_ops {H : Type} {enc : TypeId × Value → H} {W : World} {b0 : Nat} {r : Reach} {v : Value} {d : DataW H} {p : List MemPlace}
    (hval : Value.okWide Try.prog W r b0 22 v) (h : DataW.Trod enc Try.prog W 0 (fun _ => true) true 22 v d p) : ∃ ops, ReadsOps W v ops := by
  obtain ⟨a0, len, cap, rfl⟩ := okWide_slice Try.underlying22 hval
  obtain ⟨fuel, hf⟩ := h
  rcases Deep.open_slice Try.underlying22 hf with ⟨hcs, _⟩ | ⟨a, len', cap', m, n, D, Pl, hcs, _, hl, hm, hmm, _, hx⟩
  · simp [Value.cells] at hcs
    obtain ⟨rfl, rfl, rfl⟩ := hcs
    exact ⟨[], none, 0, rfl, Nat.le_refl _, Nat.zero_le _, fun j o hj => by simp at hj⟩
  · simp [Value.cells] at hcs
    obtain ⟨rfl, rfl, rfl⟩ := hcs
    simp only [if_true] at hmm
    subst hmm
    have each : ∀ j, j < m → ∃ o : OpD, ∃ b off, a = ⟨b, off, none⟩ ∧ OpAt W b (off + j * 5) o := fun j hj => by
      obtain ⟨cs, hc, ht⟩ := hx j hj
      rw [cellsOp] at hc
      obtain ⟨xs, k, _, _, _, hxl, hg⟩ := DataW.trod_struct Try.underlying33 ht
      obtain ⟨_, hcl, hat⟩ := World.cells?_some hc
      have o1 : Try.prog.cellsOf 3 = 1 := by kernel_rfl
      have o2 : Try.prog.cellsOf 31 = 1 := by kernel_rfl
      match cs, hcl with
      | [x0, x1, x2, x3, x4], _ =>
        match xs, hxl with
        | [y0, y1, y2, y3, y4], _ =>
          have g0 : DataW.trod enc Try.prog W 0 (fun _ => true) true k 3 (([x0, x1, x2, x3, x4].drop 0).take (Try.prog.cellsOf 3)) = [y0, y1, y2, y3, y4][0]? := hg 0 _ rfl
          have g1 : DataW.trod enc Try.prog W 0 (fun _ => true) true k 3 (([x0, x1, x2, x3, x4].drop 1).take (Try.prog.cellsOf 3)) = [y0, y1, y2, y3, y4][1]? := hg 1 _ rfl
          have g2 : DataW.trod enc Try.prog W 0 (fun _ => true) true k 3 (([x0, x1, x2, x3, x4].drop 2).take (Try.prog.cellsOf 3)) = [y0, y1, y2, y3, y4][2]? := hg 2 _ rfl
          have g3 : DataW.trod enc Try.prog W 0 (fun _ => true) true k 5 (([x0, x1, x2, x3, x4].drop 3).take (Try.prog.cellsOf 5)) = [y0, y1, y2, y3, y4][3]? := hg 3 _ rfl
          have g4 : DataW.trod enc Try.prog W 0 (fun _ => true) true k 31 (([x0, x1, x2, x3, x4].drop 4).take (Try.prog.cellsOf 31)) = [y0, y1, y2, y3, y4][4]? := hg 4 _ rfl
          simp only [o1, cellsByte3, o2, List.drop_zero, List.drop_succ_cons, List.take_succ_cons, List.take_zero, List.getElem?_cons_zero, List.getElem?_cons_succ] at g0 g1 g2 g3 g4
          obtain ⟨z0, e0, _, w0⟩ := DataW.trod_int Try.underlying3 g0
          obtain ⟨z1, e1, _, w1⟩ := DataW.trod_int Try.underlying3 g1
          obtain ⟨z2, e2, _, w2⟩ := DataW.trod_int Try.underlying3 g2
          obtain ⟨z3, e3, _, w3⟩ := DataW.trod_int Try.underlying5 g3
          obtain ⟨v4, l4, e4, r4, _⟩ := reads_bytes Try.underlying31 Try.underlying5 cellsByte3 g4
          simp only [List.cons.injEq, and_true] at e0 e1 e2 e3 e4
          subst e0 e1 e2 e3 e4
          have hr : 0 ≤ z3 ∧ z3 ≤ 255 := by simpa [Lit.wf, IntKind.min, IntKind.max, IntKind.signed, IntKind.bits] using w3
          have c := fun q (hq : q < 5) => hat q hq
          obtain ⟨blk, off, spot⟩ := a
          obtain ⟨cs0, hc0, _⟩ := hx 0 (by omega)
          rw [cellsOp] at hc0
          obtain ⟨_, hcl0, hat0⟩ := World.cells?_some hc0
          have h0 := (hat0 0 (by omega)).trans (List.getElem?_eq_getElem (by omega))
          have hspot : spot = none := by simpa [Addr.add] using World.cell?_spot h0
          subst hspot
          simp only [add_plain] at c
          refine ⟨⟨z0, z1, z2, UInt8.ofNat z3.toNat, x4, l4⟩, blk, off, rfl, ⟨c 0 (by omega), c 1 (by omega), c 2 (by omega), ?_, c 4 (by omega), r4, w2, w1⟩⟩
          have := c 3 (by omega)
          rw [this]
          simp
          omega
    haveI : Inhabited OpD := ⟨⟨0, 0, 0, 0, .bool false, []⟩⟩
    obtain ⟨f, hf⟩ := Deep.choose_lt (n := len) (p := fun j o => ∃ b off, a = ⟨b, off, none⟩ ∧ OpAt W b (off + j * 5) o) (fun j hj => each j (by omega))
    refine ⟨(List.range len).map f, some a, m, by simp, by simpa using hl, hm, fun j o hj => ?_⟩
    rw [List.getElem?_map] at hj
    by_cases g : j < len
    · rw [List.getElem?_range g] at hj
      simp only [Option.map_some, Option.some.injEq] at hj
      subst hj
      obtain ⟨b, off, e, h⟩ := hf j g
      exact ⟨b, off, by rw [e], h⟩
    · rw [List.getElem?_eq_none (by simpa using g)] at hj
      cases hj

def isLong (ops : List OpD) : Bool := (ops.any fun o => decide (200 < o.picks.length)) || decide (300 < ops.length)
theorem isLong_any {ops : List OpD} {k : Nat} (h : k < ops.length) (hl : 200 < ops[k].picks.length) : isLong ops = true := by
  unfold isLong
  rw [List.any_eq_true.2 ⟨ops[k], List.getElem_mem h, by simpa using hl⟩, Bool.true_or]
theorem isLong_le {ops : List OpD} (h : isLong ops = false) : ops.length ≤ 300 := by
  unfold isLong at h
  rw [Bool.or_eq_false_iff] at h
  have := h.2
  simp at this
  omega
theorem isLong_picks {ops : List OpD} (h : isLong ops = false) (k : Nat) (hk : k < ops.length) : ops[k].picks.length ≤ 200 := by
  unfold isLong at h
  rw [Bool.or_eq_false_iff] at h
  have := List.any_eq_false.1 h.1 _ (List.getElem_mem hk)
  simp at this
  omega
theorem isLong_none {ops : List OpD} (h : ∀ k (hk : k < ops.length), ¬ 200 < ops[k].picks.length) : isLong ops = decide (300 < ops.length) := by
  unfold isLong
  rw [List.any_eq_false.2 fun o ho => by
    obtain ⟨k, hk, rfl⟩ := List.mem_iff_getElem.1 ho
    simpa using h k hk, Bool.false_or]

set_option maxRecDepth 100000 in
set_option maxHeartbeats 4000000 in
theorem long_any (v : Value) (ops : List OpD) (w : World) (hr : ReadsOps w v ops) (b : Bool) (hb : isLong ops = b) :
    Calls Try.prog 11 #[v] w fun e w' => e = .returned (.bool b) ∧ Below w.heap.size w w' := by
  rcases hr.cases with ⟨rfl, a, cap, rfl⟩ | ⟨blk, off, cap, rfl, hpos, hcap, hcm, hlt, hops⟩
  · obtain rfl : b = false := by rw [← hb]; rfl
    clear hr hb
    go_enter Try.func11, Try.ntmps11
    go_wp2
    refine wp_loop_rounds 1 ?_
    rw [rounds_succ]
    go_wp2
    go_ret
    exact ⟨rfl, Below.refl _ _⟩
  · have HOPS := Lib.hid hops
    have HB := Lib.hid hb
    have hl : ops.length ≤ 9223372036854775807 := by unfold maxLen at hcm; omega
    clear hops hr hb
    go_enter Try.func11, Try.ntmps11
    go_wp2
    go_loopw [7] (fun v wr => ∃ k : Nat, k ≤ ops.length ∧ v = .int .i64 k ∧ (∀ q (hq : q < ops.length), q < k → ¬ 200 < ops[q].picks.length) ∧ Below w.heap.size w wr) (fun v _ => ops.length - (intOf v).toNat)
    case atStart => exact ⟨0, Nat.zero_le _, rfl, fun q _ hq => by omega, Below.refl _ _⟩
    case round =>
      obtain ⟨k, hk, rfl, hno, hB⟩ := hrel
      by_cases h : k < ops.length
      · have ho := HOPS.out k h
        have c := fun x => hB.cell (p := ⟨blk, x, none⟩) hlt
        have c0 := (c _).trans ho.c0
        have c1 := (c _).trans ho.c1
        have c2 := (c _).trans ho.c2
        have c3 := (c _).trans ho.c3
        have c4 := (c _).trans ho.c4
        obtain ⟨a', cap', hpv, _⟩ := ho.picks
        rw [byteVs_len] at hpv
        rw [hpv] at c4
        have HNO := Lib.hid hno
        clear c ho hpv hno
        by_cases hlong : 200 < ops[k].picks.length
        · obtain rfl : b = true := by rw [← HB.out]; exact isLong_any h hlong
          have hdec : decide ((200 : Int) < ops[k].picks.length) = true := by simp; omega
          clear hlong
          generalize ops[k].picks.length = n at *
          go_wp2
          go_ret
          exact ⟨rfl, hB.alloc hB.size _⟩
        · have hdec : decide ((200 : Int) < ops[k].picks.length) = false := by simp; omega
          have HL := Lib.hid hlong
          clear hlong
          go_wp2
          go_roundw
          case rel => exact ⟨k + 1, by omega, by go_num, fun q hq hqk => by
            by_cases e : q = k
            · subst e; exact HL.out
            · exact HNO.out q hq (by omega), hB.alloc hB.size _⟩
          case measure => simp [intOf]; omega
      · have hb : b = decide (300 < ops.length) := by rw [← HB.out]; exact isLong_none fun q hq => hno q hq (by omega)
        have hd : decide ((300 : Int) < ops.length) = b := by rw [hb]; simp; omega
        clear hno HB hb
        cases b
        all_goals
          go_wp2
          go_ret
          exact ⟨rfl, hB⟩
end Go.Proofs.Ytapkelnpkonmpaa
