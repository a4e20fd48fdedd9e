/- careenlaw12: operations and masters that came in; are there more than are played? -/
import Derived.Test.YtbjpnkjddfpmpaaOpenL
import Derived.Test.YtbjpnkjddfpmpaaOpen
import Derived.Test.YtbjpnkjddfpmpaaMaB
import Derived.Test.YtbjpnkjddfpmpaaDiskG
namespace Go.Proofs.Ytbjpnkjddfpmpaa
open Go.ChangeShapes Go.WideShapes Go.RowKit
set_option maxRecDepth 100000

theorem Reads.own12 {w : World} {v : Value} {vs : List Value} (h : Reads w v vs) (hn : vs ≠ []) : ∀ b, v.ownBlock = some b → b < w.heap.size := by
  rcases h.cases with ⟨rfl, _⟩ | ⟨b, off, cap, rfl, _, _, hb, _⟩
  · exact absurd rfl hn
  · intro b' hb'
    simp only [Value.ownBlock, Option.some.injEq] at hb'
    omega
structure Op12 where
  kind : Int
  n : Int
  ticket : Int
  m : Ms
  picks : List UInt8
def op12Cells (o : Op12) (pv : Value) : Array Value := #[.int .i64 o.kind, .int .i64 o.n, .int .u32 o.ticket, .int .i64 o.m.check, .int .i64 o.m.low, pv]
structure MsWf (m : Ms) : Prop where
  check : (Lit.int .i64 m.check).wf = true
  low : (Lit.int .i64 m.low).wf = true
structure Op12Wf (o : Op12) : Prop where
  n : (Lit.int .i64 o.n).wf = true
  m : MsWf o.m
  picks : o.picks.length ≤ maxLen
def Op12Q (w : World) (cs : List Value) (o : Op12) : Prop := ∃ pv, cs = (op12Cells o pv).toList ∧ Reads w pv (byteVs o.picks) ∧ Op12Wf o
abbrev IsOps12 (w : World) (v : Value) (l : List Op12) : Prop := ListOf 6 Op12Q w v l
theorem Op12Q.keep {w w' : World} {cs : List Value} {o : Op12} (h : Op12Q w cs o) (hb : Below w.heap.size w w') : Op12Q w' cs o := by
  obtain ⟨pv, e, hr, hw⟩ := h
  exact ⟨pv, e, hr.keep hb, hw⟩
theorem IsOps12.keep {w w' : World} {v : Value} {l : List Op12} (h : IsOps12 w v l) (hb : Below w.heap.size w w') : IsOps12 w' v l := ListOf.keep h (fun _ _ hq => hq.keep hb) hb
theorem cellsOp12 : Try.prog.cellsOf 34 = 6 := by kernel_rfl
theorem cellsInt12 : Try.prog.cellsOf 3 = 1 := by kernel_rfl
theorem cellsByte12 : Try.prog.cellsOf 5 = 1 := by kernel_rfl
theorem cellsU12 : Try.prog.cellsOf 31 = 1 := by kernel_rfl
theorem cellsMs12 : Try.prog.cellsOf 30 = 2 := by kernel_rfl
theorem cellsPicks12 : Try.prog.cellsOf 32 = 1 := by kernel_rfl
theorem read_ms {H : Type} {enc : TypeId × Value → H} {W : World} {n : Nat} {x0 x1 : Value} {y : DataW H × List MemPlace} (h : DataW.trod enc Try.prog W 0 (fun _ => true) true n 30 [x0, x1] = some y) :
    ∃ m : Ms, [x0, x1] = [.int .i64 m.check, .int .i64 m.low] ∧ MsWf m := by
  obtain ⟨xs, k, _, _, _, hxl, hg⟩ := DataW.trod_struct Try.underlying30 h
  match xs, hxl with
  | [y0, y1], _ =>
    have g0 : DataW.trod enc Try.prog W 0 (fun _ => true) true k 3 (([x0, x1].drop 0).take (Try.prog.cellsOf 3)) = [y0, y1][0]? := hg 0 _ rfl
    have g1 : DataW.trod enc Try.prog W 0 (fun _ => true) true k 3 (([x0, x1].drop 1).take (Try.prog.cellsOf 3)) = [y0, y1][1]? := hg 1 _ rfl
    simp only [cellsInt12, List.drop_zero, List.drop_succ_cons, List.take_succ_cons, List.take_zero, List.getElem?_cons_zero, List.getElem?_cons_succ] at g0 g1
    obtain ⟨z0, e0, _, w0⟩ := DataW.trod_int Try.underlying3 g0
    obtain ⟨z1, e1, _, w1⟩ := DataW.trod_int Try.underlying3 g1
    simp only [List.cons.injEq, and_true] at e0 e1
    subst e0 e1
    exact ⟨⟨z0, z1⟩, rfl, ⟨w0, w1⟩⟩
theorem read_op12 {H : Type} {enc : TypeId × Value → H} {W : World} {n : Nat} {cs : List Value} {y : DataW H × List MemPlace} (hcl : cs.length = 6) (h : DataW.trod enc Try.prog W 0 (fun _ => true) true n 34 cs = some y) : ∃ o : Op12, Op12Q W cs o := by
  obtain ⟨xs, k, _, _, _, hxl, hg⟩ := DataW.trod_struct Try.underlying34 h
  match cs, hcl with
  | [x0, x1, x2, x3, x4, x5], _ =>
    match xs, hxl with
    | [y0, y1, y2, y3, y4], _ =>
      have g0 : DataW.trod enc Try.prog W 0 (fun _ => true) true k 3 (([x0, x1, x2, x3, x4, x5].drop 0).take (Try.prog.cellsOf 3)) = [y0, y1, y2, y3, y4][0]? := hg 0 _ rfl
      have g1 : DataW.trod enc Try.prog W 0 (fun _ => true) true k 3 (([x0, x1, x2, x3, x4, x5].drop 1).take (Try.prog.cellsOf 3)) = [y0, y1, y2, y3, y4][1]? := hg 1 _ rfl
      have g2 : DataW.trod enc Try.prog W 0 (fun _ => true) true k 31 (([x0, x1, x2, x3, x4, x5].drop 2).take (Try.prog.cellsOf 31)) = [y0, y1, y2, y3, y4][2]? := hg 2 _ rfl
      have g3 : DataW.trod enc Try.prog W 0 (fun _ => true) true k 30 (([x0, x1, x2, x3, x4, x5].drop 3).take (Try.prog.cellsOf 30)) = [y0, y1, y2, y3, y4][3]? := hg 3 _ rfl
      have g4 : DataW.trod enc Try.prog W 0 (fun _ => true) true k 32 (([x0, x1, x2, x3, x4, x5].drop 5).take (Try.prog.cellsOf 32)) = [y0, y1, y2, y3, y4][4]? := hg 4 _ rfl
      simp only [cellsInt12, cellsU12, cellsMs12, cellsPicks12, List.drop_zero, List.drop_succ_cons, List.take_succ_cons, List.take_zero, List.getElem?_cons_zero, List.getElem?_cons_succ] at g0 g1 g2 g3 g4
      obtain ⟨z0, e0, _, w0⟩ := DataW.trod_int Try.underlying3 g0
      obtain ⟨z1, e1, _, w1⟩ := DataW.trod_int Try.underlying3 g1
      obtain ⟨z2, e2, _, w2⟩ := DataW.trod_int Try.underlying31 g2
      obtain ⟨v5, l5, e5, r5, h5⟩ := reads_bytes Try.underlying32 Try.underlying5 cellsByte12 g4
      obtain ⟨m, e3, hm⟩ := read_ms g3
      simp only [List.cons.injEq, and_true] at e0 e1 e2 e3 e5
      obtain ⟨e3, e4⟩ := e3
      subst e0 e1 e2 e3 e4 e5
      exact ⟨⟨z0, z1, z2, m, l5⟩, x5, rfl, r5, ⟨w1, hm, h5⟩⟩
theorem open_ops12 {H : Type} {enc : TypeId × Value → H} {W : World} {b0 : Nat} {r : Reach} {v : Value} {d : DataW H} {p : List MemPlace} (hval : Value.okWide Try.prog W r b0 22 v) (h : DataW.Trod enc Try.prog W 0 (fun _ => true) true 22 v d p) :
    ∃ l, IsOps12 W v l :=
  haveI : Inhabited Op12 := ⟨⟨0, 0, 0, Ms.none, []⟩⟩
  open_list Try.underlying22 6 (by decide) cellsOp12 hval h Op12Q fun _ _ _ hcl ht => read_op12 hcl ht
/-- An operation in cells behind one another. -/
structure Op12At (w : World) (b o : Nat) (x : Op12) (pv : Value) : Prop where
  c0 : w.cell? ⟨b, o, none⟩ = some (.int .i64 x.kind)
  c1 : w.cell? ⟨b, o + 1, none⟩ = some (.int .i64 x.n)
  c2 : w.cell? ⟨b, o + 2, none⟩ = some (.int .u32 x.ticket)
  c3 : w.cell? ⟨b, o + 3, none⟩ = some (.int .i64 x.m.check)
  c4 : w.cell? ⟨b, o + 4, none⟩ = some (.int .i64 x.m.low)
  c5 : w.cell? ⟨b, o + 5, none⟩ = some pv
theorem Op12At.mk' {w : World} {b o : Nat} {x : Op12} {pv : Value} (h : ∀ i u, (op12Cells x pv)[i]? = some u → w.cell? ⟨b, o + i, none⟩ = some u) : Op12At w b o x pv :=
  ⟨h 0 _ rfl, h 1 _ rfl, h 2 _ rfl, h 3 _ rfl, h 4 _ rfl, h 5 _ rfl⟩
theorem Op12At.keep {w w' : World} {b o : Nat} {x : Op12} {pv : Value} (h : Op12At w b o x pv) (hb : Below w.heap.size w w') : Op12At w' b o x pv := by
  have hlt := World.block_lt_of_cell? w ⟨b, o, none⟩ h.c0
  have k : ∀ x, w'.cell? ⟨b, x, none⟩ = w.cell? ⟨b, x, none⟩ := fun x => hb.cell (p := ⟨b, x, none⟩) hlt
  exact ⟨(k _).trans h.c0, (k _).trans h.c1, (k _).trans h.c2, (k _).trans h.c3, (k _).trans h.c4, (k _).trans h.c5⟩
theorem IsOps12.at_ {w : World} {v : Value} {l : List Op12} (h : IsOps12 w v l) (hl : 0 < l.length) : ∃ b off cap, v = .slice (some ⟨b, off, none⟩) l.length cap ∧ l.length ≤ cap ∧ cap ≤ maxLen ∧ b < w.heap.size ∧
    ∀ j (hj : j < l.length), ∃ ka kc, Reads w (.slice ka l[j].picks.length kc) (byteVs l[j].picks) ∧ Op12Wf l[j] ∧ (l[j].picks ≠ [] → ∀ b, (Value.slice ka l[j].picks.length kc).ownBlock = some b → b < w.heap.size) ∧ Op12At w b (off + j * 6) l[j] (.slice ka l[j].picks.length kc) := by
  rcases h.cases with ⟨rfl, _⟩ | ⟨b, off, cap, rfl, _, h2, h3, h4, h5⟩
  · simp at hl
  refine ⟨b, off, cap, rfl, h2, h3, h4, fun j hj => ?_⟩
  obtain ⟨cs, ⟨pv, rfl, hr, hw⟩, hc⟩ := h5 j hj
  have hw2 : l[j].picks ≠ [] → ∀ b, pv.ownBlock = some b → b < w.heap.size := fun hp => hr.own12 (by intro e; apply hp; have := congrArg List.length e; simp [byteVs] at this; exact this)
  have hr2 := hr
  obtain ⟨ka, kc, e'', _⟩ := hr2
  rw [show (byteVs l[j].picks).length = l[j].picks.length by simp [byteVs]] at e''
  subst e''
  exact ⟨ka, kc, hr, hw, hw2, .mk' fun i u hu => hc i u (by rw [Array.getElem?_toList]; exact hu)⟩
/-- Masters that came in. -/
def MsQ (_ : World) (cs : List Value) (m : Ms) : Prop := cs = [.int .i64 m.check, .int .i64 m.low] ∧ MsWf m
abbrev IsMss (w : World) (v : Value) (l : List Ms) : Prop := ListOf 2 MsQ w v l
theorem IsMss.keep {w w' : World} {v : Value} {l : List Ms} (h : IsMss w v l) (hb : Below w.heap.size w w') : IsMss w' v l := ListOf.keep h (fun _ _ hq => hq) hb
theorem open_mss {H : Type} {enc : TypeId × Value → H} {W : World} {b0 : Nat} {r : Reach} {v : Value} {d : DataW H} {p : List MemPlace} (hval : Value.okWide Try.prog W r b0 43 v) (h : DataW.Trod enc Try.prog W 0 (fun _ => true) true 43 v d p) :
    ∃ l, IsMss W v l :=
  haveI : Inhabited Ms := ⟨Ms.none⟩
  open_list Try.underlying43 2 (by decide) cellsMs12 hval h MsQ fun _ cs _ hcl ht => by
    match cs, hcl with
    | [x0, x1], _ => exact read_ms ht
theorem IsMss.at_ {w : World} {v : Value} {l : List Ms} (h : IsMss w v l) (hl : 0 < l.length) : ∃ b off cap, v = .slice (some ⟨b, off, none⟩) l.length cap ∧ l.length ≤ cap ∧ cap ≤ maxLen ∧ b < w.heap.size ∧
    ∀ j (hj : j < l.length), MsWf l[j] ∧ w.cell? ⟨b, off + j * 2, none⟩ = some (.int .i64 l[j].check) ∧ w.cell? ⟨b, off + j * 2 + 1, none⟩ = some (.int .i64 l[j].low) := by
  rcases h.cases with ⟨rfl, _⟩ | ⟨b, off, cap, rfl, _, h2, h3, h4, h5⟩
  · simp at hl
  refine ⟨b, off, cap, rfl, h2, h3, h4, fun j hj => ?_⟩
  obtain ⟨cs, ⟨rfl, hw⟩, hc⟩ := h5 j hj
  exact ⟨hw, hc 0 _ rfl, hc 1 _ rfl⟩

def isLong12 (ops : List Op12) : Prop := (∃ o ∈ ops, 200 < o.picks.length) ∨ 300 < ops.length
/-- The variable's cells, spelled as the walk spells them. -/
def op12Zero : Array Value := #[.int .i64 0, .int .i64 0, .int .u32 0, .int .i64 0, .int .i64 0, .slice none 0 0]
set_option maxHeartbeats 16000000 in
theorem long12_any (v : Value) (ops : List Op12) (w : World) (hr : IsOps12 w v ops) (yes : Bool) (hy : yes = true ↔ isLong12 ops) :
    Calls Try.prog 9 #[v] w fun e w' => e = .returned (.bool yes) ∧ Below w.heap.size w w' := by
  have HV := Lib.hid hr
  obtain ⟨a, cap, rfl, h1, h2, _⟩ := hr
  have hm : (ops.length : Int) ≤ 9223372036854775807 := by unfold maxLen at h2; omega
  have HY := Lib.hid hy
  clear h1 h2 hy
  go_enter Try.func9, Try.ntmps9
  go_wp2_with fail
  go_loopw [7] (fun vk wr => ∃ k : Nat, vk = .int .i64 k ∧ k ≤ ops.length ∧ Below w.heap.size w wr ∧ ∀ o ∈ ops.take k, ¬ 200 < o.picks.length) (fun vk _ => ops.length - (intOf vk).toNat)
  case atStart => exact ⟨0, rfl, Nat.zero_le _, Below.refl _ _, fun o ho => by simp at ho⟩
  case round =>
    obtain ⟨k, rfl, hk, hB, hall⟩ := hrel
    have HB := Lib.hid hB
    have HALL := Lib.hid hall
    clear hB hall
    by_cases hlt : k < ops.length
    · obtain ⟨b, off, cap', hva, _, _, hbw, hel⟩ := HV.out.at_ (by omega)
      cases hva
      obtain ⟨ka, kc, hrd, hwf, _, hc⟩ := hel k hlt
      have HIN : Hid (ops[k] ∈ ops) := List.getElem_mem hlt
      have HTK : Hid (ops.take (k + 1) = ops.take k ++ [ops[k]]) := by unfold Hid; rw [List.take_succ_eq_append_getElem hlt]
      have hp : (ops[k].picks.length : Int) ≤ 9223372036854775807 := by have := hwf.picks; unfold maxLen at this; omega
      obtain ⟨c0, c1, c2, c3, c4, c5⟩ := hc.keep HB.out
      clear hel hc hrd hwf
      generalize ops[k] = o at *
      have hn := Blk.new wr 34 op12Zero
      have N3 := hn.setRow (op12Cells o (.slice ka o.picks.length kc))
      have hb3 : Below wr.heap.size wr ((wr.alloc (.cells op12Zero 34)).setRow wr.heap.size (op12Cells o (.slice ka o.picks.length kc))) := below_setRow ((Below.refl _ _).alloc (Nat.le_refl _) _) (Nat.le_refl _) _
      have HB3 := Lib.hid (below2 HB.out hb3)
      go_upto_region 4 with (refine wpList_store_row rfl 34 _ _ rfl wr.heap.size _ rfl rfl 34 _ hn (by kernel_rfl) rfl (by simp [Value.oneCell']) ?_)
      clear hn hb3 c0 c1 c2 c3 c4 c5 HB hbw
      change Code.wp _ _ _ _ ((wr.alloc (.cells op12Zero 34)).setRow wr.heap.size (op12Cells o (.slice ka o.picks.length kc)))
      generalize (wr.alloc (.cells op12Zero 34)).setRow wr.heap.size (op12Cells o (.slice ka o.picks.length kc)) = w3 at *
      generalize wr.heap.size = x at *
      have d5 : w3.cell? ⟨x, 5, none⟩ = some (.slice ka o.picks.length kc) := N3.cell 5
      clear N3
      by_cases hp2 : 200 < o.picks.length
      · have hp3 : (200 : Int) < o.picks.length := by omega
        have hyes : yes = true := HY.out.2 (.inl ⟨o, HIN.out, hp2⟩)
        clear hp2
        go_wp2
        go_ret
        exact ⟨by first | rfl | (rw [hyes]; rfl), HB3.out⟩
      · have hp3 : ¬ (200 : Int) < o.picks.length := by omega
        have HALL2 : Hid (∀ q ∈ ops.take (k + 1), ¬ 200 < q.picks.length) := fun q hq => by
          rw [HTK.out] at hq
          rcases List.mem_append.1 hq with hq | hq
          · exact HALL.out q hq
          · simp at hq; subst hq; exact hp2
        clear HALL hp2
        go_wp2
        go_roundw
        case rel => exact ⟨k + 1, by go_num, by omega, HB3.out, HALL2.out⟩
        case measure => simp [intOf]; omega
    · obtain rfl : k = ops.length := by omega
      have hyes : yes = decide ((300 : Int) < ops.length) := by
        have hall := HALL.out
        rw [List.take_length] at hall
        have h2 : isLong12 ops ↔ (300 : Int) < ops.length := by
          unfold isLong12
          constructor
          · rintro (⟨o, ho, h⟩ | h)
            · exact absurd h (hall o ho)
            · omega
          · intro h; exact .inr (by omega)
        by_cases h : (300 : Int) < ops.length
        · rw [decide_eq_true h]; exact HY.out.2 (h2.2 h)
        · rw [decide_eq_false h]
          cases hyy : yes with
          | true => exact absurd (h2.1 (HY.out.1 hyy)) h
          | false => rfl
      go_wp2
      go_ret
      exact ⟨by rw [hyes]; rfl, HB.out⟩
instance (ops : List Op12) : Decidable (isLong12 ops) := inferInstanceAs (Decidable (_ ∨ _))
end Go.Proofs.Ytbjpnkjddfpmpaa
