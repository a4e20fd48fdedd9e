/- careenlaw15.TapeGrows: it returns true for every input, and leaves its arguments as they were: the row's proof, out of the walk.
   Conditions: none beside the row's own (each argument is read as data). -/
import Derived.Test.YtpcfhpffbogjmaaOpen
import Derived.Test.YtpcfhpffbogjmaaOpenRecs
import Derived.Test.YtpcfhpffbogjmaaRecM2
import Derived.Test.YtpcfhpffbogjmaaJb
import Derived.Test.YtpcfhpffbogjmaaJg
import Derived.Test.YtpcfhpffbogjmaaUint
import Derived.Deep.DeepCutAuto
import Derived.Deep.CutBlock
import Derived.ProofKit
import Derived.OpenShut
import Derived.ShutString
import Derived.ChangeOld
import Derived.Below
import Derived.Lib.SmallJoins
/- careenlaw15: operations that came in; are there more than are played? -/
namespace Go.Proofs.Ytpcfhpffbogjmaa
open Go.ChangeShapes Go.WideShapes Go.RowKit
set_option maxRecDepth 100000

structure OpT where
  kind : Int
  n : Int
  r : Rc
  picks : List UInt8
def opTCells (o : OpT) (vt vp pv : Value) : Array Value := #[.int .i64 o.kind, .int .i64 o.n, .int .i64 o.r.kind, .int .i64 o.r.txn, .int .i64 o.r.page, .int .i64 o.r.off, .int .i64 o.r.prev, .int .i64 o.r.next, .int .i64 o.r.beg, .string o.r.before, .string o.r.after, vt, vp, pv]
theorem opT_toList (o : OpT) (vt vp pv : Value) : (opTCells o vt vp pv).toList = .int .i64 o.kind :: .int .i64 o.n :: ((recCells o.r vt vp).toList ++ [pv]) := rfl
def OpTQ (w : World) (cs : List Value) (o : OpT) : Prop := ∃ vt vp pv, cs = (opTCells o vt vp pv).toList ∧ Lists w o.r vt vp ∧ Sized o.r ∧ Reads w pv (byteVs o.picks) ∧ (Lit.int .i64 o.n).wf = true ∧ o.picks.length ≤ maxLen
abbrev IsOpsT (w : World) (v : Value) (l : List OpT) : Prop := ListOf 14 OpTQ w v l
theorem OpTQ.keep {w w' : World} {cs : List Value} {o : OpT} (h : OpTQ w cs o) (hb : Below w.heap.size w w') : OpTQ w' cs o := by
  obtain ⟨vt, vp, pv, e, hl, hs, hr, hn, hm⟩ := h
  exact ⟨vt, vp, pv, e, hl.keep hb, hs, hr.keep hb, hn, hm⟩
theorem IsOpsT.keep {w w' : World} {v : Value} {l : List OpT} (h : IsOpsT w v l) (hb : Below w.heap.size w w') : IsOpsT w' v l := ListOf.keep h (fun _ _ hq => hq.keep hb) hb
theorem cellsOpT : Try.prog.cellsOf 53 = 14 := by kernel_rfl
theorem cellsIntT : Try.prog.cellsOf 3 = 1 := by kernel_rfl
theorem cellsByteT : Try.prog.cellsOf 5 = 1 := by kernel_rfl
theorem cellsPicksT : Try.prog.cellsOf 51 = 1 := by kernel_rfl
theorem read_opT {H : Type} {enc : TypeId × Value → H} {W : World} {n : Nat} {cs : List Value} {y : DataW H × List MemPlace} (hcl : cs.length = 14) (h : DataW.trod enc Try.prog W 0 (fun _ => true) true n 53 cs = some y) : ∃ o : OpT, OpTQ W cs o := by
  obtain ⟨xs, k, _, _, _, hxl, hg⟩ := DataW.trod_struct Try.underlying53 h
  match cs, hcl with
  | [x0, x1, x2, x3, x4, x5, x6, x7, x8, x9, x10, x11, x12, x13], _ =>
    match xs, hxl with
    | [y0, y1, y2, y3], _ =>
      have g0 : DataW.trod enc Try.prog W 0 (fun _ => true) true k 3 (([x0, x1, x2, x3, x4, x5, x6, x7, x8, x9, x10, x11, x12, x13].drop 0).take (Try.prog.cellsOf 3)) = [y0, y1, y2, y3][0]? := hg 0 _ rfl
      have g1 : DataW.trod enc Try.prog W 0 (fun _ => true) true k 3 (([x0, x1, x2, x3, x4, x5, x6, x7, x8, x9, x10, x11, x12, x13].drop 1).take (Try.prog.cellsOf 3)) = [y0, y1, y2, y3][1]? := hg 1 _ rfl
      have g2 : DataW.trod enc Try.prog W 0 (fun _ => true) true k 50 (([x0, x1, x2, x3, x4, x5, x6, x7, x8, x9, x10, x11, x12, x13].drop 2).take (Try.prog.cellsOf 50)) = [y0, y1, y2, y3][2]? := hg 2 _ rfl
      have g3 : DataW.trod enc Try.prog W 0 (fun _ => true) true k 51 (([x0, x1, x2, x3, x4, x5, x6, x7, x8, x9, x10, x11, x12, x13].drop 13).take (Try.prog.cellsOf 51)) = [y0, y1, y2, y3][3]? := hg 3 _ rfl
      simp only [cellsIntT, cellsRec, cellsPicksT, List.drop_zero, List.drop_succ_cons, List.take_succ_cons, List.take_zero, List.getElem?_cons_zero, List.getElem?_cons_succ] at g0 g1 g2 g3
      obtain ⟨z0, e0, _, w0⟩ := DataW.trod_int Try.underlying3 g0
      obtain ⟨z1, e1, _, w1⟩ := DataW.trod_int Try.underlying3 g1
      obtain ⟨r, vt, vp, e2, hl, hs⟩ := read_rec rfl g2
      obtain ⟨v4, l4, e3, r4, h4⟩ := reads_bytes Try.underlying51 Try.underlying5 cellsByteT g3
      simp only [List.cons.injEq, and_true] at e0 e1 e3
      subst e0 e1 e3
      refine ⟨⟨z0, z1, r, l4⟩, vt, vp, x13, ?_, hl, hs, r4, w1, h4⟩
      rw [opT_toList, ← e2]
      rfl
theorem open_opsT {H : Type} {enc : TypeId × Value → H} {W : World} {b0 : Nat} {r : Reach} {v : Value} {d : DataW H} {p : List MemPlace} (hval : Value.okWide Try.prog W r b0 38 v) (h : DataW.Trod enc Try.prog W 0 (fun _ => true) true 38 v d p) :
    ∃ l, IsOpsT W v l :=
  haveI : Inhabited OpT := ⟨⟨0, 0, Rc.nil, []⟩⟩
  open_list Try.underlying38 14 (by decide) cellsOpT hval h OpTQ fun _ _ _ hcl ht => read_opT hcl ht
/-- An operation in cells behind one another. -/
structure OpTAt (w : World) (b o : Nat) (x : OpT) (vt vp pv : Value) : Prop where
  c0 : w.cell? ⟨b, o, none⟩ = some (.int .i64 x.kind)
  c1 : w.cell? ⟨b, o + 1, none⟩ = some (.int .i64 x.n)
  c2 : w.cell? ⟨b, o + 2, none⟩ = some (.int .i64 x.r.kind)
  c3 : w.cell? ⟨b, o + 3, none⟩ = some (.int .i64 x.r.txn)
  c4 : w.cell? ⟨b, o + 4, none⟩ = some (.int .i64 x.r.page)
  c5 : w.cell? ⟨b, o + 5, none⟩ = some (.int .i64 x.r.off)
  c6 : w.cell? ⟨b, o + 6, none⟩ = some (.int .i64 x.r.prev)
  c7 : w.cell? ⟨b, o + 7, none⟩ = some (.int .i64 x.r.next)
  c8 : w.cell? ⟨b, o + 8, none⟩ = some (.int .i64 x.r.beg)
  c9 : w.cell? ⟨b, o + 9, none⟩ = some (.string x.r.before)
  c10 : w.cell? ⟨b, o + 10, none⟩ = some (.string x.r.after)
  c11 : w.cell? ⟨b, o + 11, none⟩ = some vt
  c12 : w.cell? ⟨b, o + 12, none⟩ = some vp
  c13 : w.cell? ⟨b, o + 13, none⟩ = some pv
theorem OpTAt.mk' {w : World} {b o : Nat} {x : OpT} {vt vp pv : Value} (h : ∀ i u, (opTCells x vt vp pv)[i]? = some u → w.cell? ⟨b, o + i, none⟩ = some u) : OpTAt w b o x vt vp pv :=
  ⟨h 0 _ rfl, h 1 _ rfl, h 2 _ rfl, h 3 _ rfl, h 4 _ rfl, h 5 _ rfl, h 6 _ rfl, h 7 _ rfl, h 8 _ rfl, h 9 _ rfl, h 10 _ rfl, h 11 _ rfl, h 12 _ rfl, h 13 _ rfl⟩
theorem OpTAt.keep {w w' : World} {b o : Nat} {x : OpT} {vt vp pv : Value} (h : OpTAt w b o x vt vp pv) (hb : Below w.heap.size w w') : OpTAt w' b o x vt vp pv := by
  have hlt := World.block_lt_of_cell? w ⟨b, o, none⟩ h.c0
  have k : ∀ x, w'.cell? ⟨b, x, none⟩ = w.cell? ⟨b, x, none⟩ := fun x => hb.cell (p := ⟨b, x, none⟩) hlt
  exact ⟨(k _).trans h.c0, (k _).trans h.c1, (k _).trans h.c2, (k _).trans h.c3, (k _).trans h.c4, (k _).trans h.c5, (k _).trans h.c6, (k _).trans h.c7, (k _).trans h.c8, (k _).trans h.c9, (k _).trans h.c10, (k _).trans h.c11, (k _).trans h.c12, (k _).trans h.c13⟩
theorem IsOpsT.at_ {w : World} {v : Value} {l : List OpT} (h : IsOpsT w v l) (hl : 0 < l.length) : ∃ b off cap, v = .slice (some ⟨b, off, none⟩) l.length cap ∧ l.length ≤ cap ∧ cap ≤ maxLen ∧ b < w.heap.size ∧
    ∀ j (hj : j < l.length), ∃ ta tc pa pc ka kc, Lists w l[j].r (.slice ta l[j].r.txns.length tc) (.slice pa l[j].r.pages.length pc) ∧ Sized l[j].r ∧ Reads w (.slice ka l[j].picks.length kc) (byteVs l[j].picks) ∧ (Lit.int .i64 l[j].n).wf = true ∧ l[j].picks.length ≤ maxLen ∧
      OpTAt w b (off + j * 14) l[j] (.slice ta l[j].r.txns.length tc) (.slice pa l[j].r.pages.length pc) (.slice ka l[j].picks.length kc) := by
  rcases h.cases with ⟨rfl, _⟩ | ⟨b, off, cap, rfl, _, h2, h3, h4, h5⟩
  · simp at hl
  refine ⟨b, off, cap, rfl, h2, h3, h4, fun j hj => ?_⟩
  obtain ⟨cs, ⟨vt, vp, pv, rfl, hl, hs, hr, hn, hm⟩, hc⟩ := h5 j hj
  obtain ⟨ta, tc, e⟩ := hl.t.form
  obtain ⟨pa, pc, e'⟩ := hl.p.form
  have hr2 := hr
  obtain ⟨ka, kc, e'', _⟩ := hr2
  rw [show (byteVs l[j].picks).length = l[j].picks.length by simp [byteVs]] at e''
  subst e e' e''
  exact ⟨ta, tc, pa, pc, ka, kc, hl, hs, hr, hn, hm, .mk' fun i u hu => hc i u (by rw [Array.getElem?_toList]; exact hu)⟩

def isLongT (ops : List OpT) : Prop := (∃ o ∈ ops, ¬ Fit o.r ∨ 200 < o.picks.length) ∨ 200 < ops.length
/-- The variable's cells, spelled as the walk spells them. -/
def opTZero : Array Value := #[.int .i64 0, .int .i64 0, .int .i64 0, .int .i64 0, .int .i64 0, .int .i64 0, .int .i64 0, .int .i64 0, .int .i64 0, .string ⟨#[]⟩, .string ⟨#[]⟩, .slice none 0 0, .slice none 0 0, .slice none 0 0]
set_option maxHeartbeats 16000000 in
theorem longT_any (v : Value) (ops : List OpT) (w : World) (hr : IsOpsT w v ops) (yes : Bool) (hy : yes = true ↔ isLongT ops) :
    Calls Try.prog 15 #[v] w fun e w' => e = .returned (.bool yes) ∧ Below w.heap.size w w' := by
  have HV := Lib.hid hr
  obtain ⟨a, cap, rfl, h1, h2, _⟩ := hr
  have hm : (ops.length : Int) ≤ 9223372036854775807 := by unfold maxLen at h2; omega
  have HY := Lib.hid hy
  clear h1 h2 hy
  go_enter Try.func15, Try.ntmps15
  go_wp2_with fail
  go_loopw [7] (fun vk wr => ∃ k : Nat, vk = .int .i64 k ∧ k ≤ ops.length ∧ Below w.heap.size w wr ∧ ∀ o ∈ ops.take k, Fit o.r ∧ ¬ 200 < o.picks.length) (fun vk _ => ops.length - (intOf vk).toNat)
  case atStart => exact ⟨0, rfl, Nat.zero_le _, Below.refl _ _, fun o ho => by simp at ho⟩
  case round =>
    obtain ⟨k, rfl, hk, hB, hall⟩ := hrel
    have HB := Lib.hid hB
    have HALL := Lib.hid hall
    clear hB hall
    by_cases hlt : k < ops.length
    · obtain ⟨b, off, cap', hva, _, _, hbw, hel⟩ := HV.out.at_ (by omega)
      cases hva
      obtain ⟨ta, tc, pa, pc, ka, kc, hls0, hsz, hrd, hnw, hpm, hc⟩ := hel k hlt
      have HLS := Lib.hid (hls0.keep HB.out)
      have HSZ := Lib.hid hsz
      have HIN : Hid (ops[k] ∈ ops) := List.getElem_mem hlt
      have HTK : Hid (ops.take (k + 1) = ops.take k ++ [ops[k]]) := by unfold Hid; rw [List.take_succ_eq_append_getElem hlt]
      have hp : (ops[k].picks.length : Int) ≤ 9223372036854775807 := by unfold maxLen at hpm; omega
      obtain ⟨c0, c1, c2, c3, c4, c5, c6, c7, c8, c9, c10, c11, c12, c13⟩ := hc.keep HB.out
      clear hls0 hsz hel hc hrd hnw hpm
      generalize ops[k] = o at *
      have hn := Blk.new wr 53 opTZero
      have N3 := hn.setRow (opTCells o (.slice ta o.r.txns.length tc) (.slice pa o.r.pages.length pc) (.slice ka o.picks.length kc))
      have hb3 : Below wr.heap.size wr ((wr.alloc (.cells opTZero 53)).setRow wr.heap.size (opTCells o (.slice ta o.r.txns.length tc) (.slice pa o.r.pages.length pc) (.slice ka o.picks.length kc))) := below_setRow ((Below.refl _ _).alloc (Nat.le_refl _) _) (Nat.le_refl _) _
      have HB3 := Lib.hid (below2 HB.out hb3)
      have HLS3 := Lib.hid (HLS.out.keep hb3)
      go_upto_region 4 with (refine wpList_store_row rfl 53 _ _ rfl wr.heap.size _ rfl rfl 53 _ hn (by kernel_rfl) rfl (by simp [Value.oneCell']) ?_)
      clear hn hb3 c0 c1 c2 c3 c4 c5 c6 c7 c8 c9 c10 c11 c12 c13 HLS HB hbw
      change Code.wp _ _ _ _ ((wr.alloc (.cells opTZero 53)).setRow wr.heap.size (opTCells o (.slice ta o.r.txns.length tc) (.slice pa o.r.pages.length pc) (.slice ka o.picks.length kc)))
      generalize (wr.alloc (.cells opTZero 53)).setRow wr.heap.size (opTCells o (.slice ta o.r.txns.length tc) (.slice pa o.r.pages.length pc) (.slice ka o.picks.length kc)) = w3 at *
      generalize wr.heap.size = x at *
      have IR : Hid (IsRec w3 (.agg (recCells o.r (.slice ta o.r.txns.length tc) (.slice pa o.r.pages.length pc))) o.r) := ⟨_, _, rfl, HLS3.out⟩
      have d2 : w3.cell? ⟨x, 2, none⟩ = some (.int .i64 o.r.kind) := N3.cell 2
      have d3 : w3.cell? ⟨x, 3, none⟩ = some (.int .i64 o.r.txn) := N3.cell 3
      have d4 : w3.cell? ⟨x, 4, none⟩ = some (.int .i64 o.r.page) := N3.cell 4
      have d5 : w3.cell? ⟨x, 5, none⟩ = some (.int .i64 o.r.off) := N3.cell 5
      have d6 : w3.cell? ⟨x, 6, none⟩ = some (.int .i64 o.r.prev) := N3.cell 6
      have d7 : w3.cell? ⟨x, 7, none⟩ = some (.int .i64 o.r.next) := N3.cell 7
      have d8 : w3.cell? ⟨x, 8, none⟩ = some (.int .i64 o.r.beg) := N3.cell 8
      have d9 : w3.cell? ⟨x, 9, none⟩ = some (.string o.r.before) := N3.cell 9
      have d10 : w3.cell? ⟨x, 10, none⟩ = some (.string o.r.after) := N3.cell 10
      have d11 : w3.cell? ⟨x, 11, none⟩ = some (.slice ta o.r.txns.length tc) := N3.cell 11
      have d12 : w3.cell? ⟨x, 12, none⟩ = some (.slice pa o.r.pages.length pc) := N3.cell 12
      by_cases hf : Fit o.r
      · have FEW := Lib.hid (few_yes IR.out hf)
        have HF := Lib.hid hf
        clear hf
        go_wp2_with fail
        refine FEW.out.mono ?_
        rintro e w4 ⟨rfl, hb4⟩
        have d13 : w4.cell? ⟨x, 13, none⟩ = some (.slice ka o.picks.length kc) := (N3.keep hb4 N3.lt).cell 13
        have HB4 := Lib.hid (below2 HB3.out hb4)
        clear hb4 HB3 N3 HLS3 IR FEW d2 d3 d4 d5 d6 d7 d8 d9 d10 d11 d12
        by_cases hp2 : 200 < o.picks.length
        · have hp3 : (200 : Int) < o.picks.length := by omega
          have hyes : yes = true := HY.out.2 (.inl ⟨o, HIN.out, .inr hp2⟩)
          go_wp2
          go_ret
          exact ⟨by rw [hyes]; rfl, HB4.out⟩
        · have hp3 : ¬ (200 : Int) < o.picks.length := by omega
          have HALL2 : Hid (∀ q ∈ ops.take (k + 1), Fit q.r ∧ ¬ 200 < q.picks.length) := fun q hq => by
            rw [HTK.out] at hq
            rcases List.mem_append.1 hq with hq | hq
            · exact HALL.out q hq
            · simp at hq; subst hq; exact ⟨HF.out, hp2⟩
          clear HALL hp2
          go_wp2
          go_roundw
          case rel => exact ⟨k + 1, by go_num, by omega, HB4.out, HALL2.out⟩
          case measure => simp [intOf]; omega
      · have FEW := Lib.hid (few_no IR.out HSZ.out hf)
        have hyes : yes = true := HY.out.2 (.inl ⟨o, HIN.out, .inl hf⟩)
        clear hf
        go_wp2_with fail
        refine FEW.out.mono ?_
        rintro e w4 ⟨rfl, hb4⟩
        have HB4 := Lib.hid (below2 HB3.out hb4)
        clear hb4 HB3 N3 HLS3 IR FEW d2 d3 d4 d5 d6 d7 d8 d9 d10 d11 d12
        go_wp2
        go_ret
        exact ⟨by rw [hyes]; rfl, HB4.out⟩
    · obtain rfl : k = ops.length := by omega
      have hyes : yes = decide ((200 : Int) < ops.length) := by
        have hall := HALL.out
        rw [List.take_length] at hall
        have h2 : isLongT ops ↔ (200 : Int) < ops.length := by
          unfold isLongT
          constructor
          · rintro (⟨o, ho, h⟩ | h)
            · have := hall o ho
              rcases h with h | h
              · exact absurd this.1 h
              · exact absurd h this.2
            · omega
          · intro h; exact .inr (by omega)
        by_cases h : (200 : Int) < ops.length
        · rw [decide_eq_true h]; exact HY.out.2 (h2.2 h)
        · rw [decide_eq_false h]
          cases hyy : yes with
          | true => exact absurd (h2.1 (HY.out.1 hyy)) h
          | false => rfl
      go_wp2
      go_ret
      exact ⟨by rw [hyes]; rfl, HB.out⟩
end Go.Proofs.Ytpcfhpffbogjmaa

/- careenlaw15.TapeGrows, walked. -/
namespace Go.Proofs.Ytpcfhpffbogjmaa
open Go.RowKit

/-- A list of entries lies apart from some blocks. -/
def Off (F : Foot) (v : Value) (q : List Qe) : Prop := (∀ b, v.ownBlock = some b → ¬ F b) ∧ ∀ x ∈ q, (rows3 x.r.txns ≠ [] → ∀ b, x.vt.ownBlock = some b → ¬ F b) ∧ (rows2 x.r.pages ≠ [] → ∀ b, x.vp.ownBlock = some b → ¬ F b)
theorem OwnE.only {w w' : World} {B : Nat} {v : Value} {q : List Qe} {S : Nat → Prop} (h : OwnE w B v q) (hb : Only S w w') (ho : Off S v q) : OwnE w' B v q :=
  ⟨own_only h.own hb ho.1, fun x hx => (h.lists x hx).keepA hb (ho.2 x hx).1 (ho.2 x hx).2, h.apart⟩
theorem Off.new {w' : World} {B : Nat} {F : Foot} {v : Value} {q : List Qe} (h : OwnE w' B v q) (hf : FreshQ B q) (hF : ∀ b, F b → b < B) : Off F v q :=
  ⟨fun b hb hf2 => by have := hF b hf2; have := (h.own.lt b hb).1; omega, fun x hx => ⟨fun hr b hb hf2 => by have := hF b hf2; have := (hf x hx).1 hr b hb; omega, fun hr b hb hf2 => by have := hF b hf2; have := (hf x hx).2 hr b hb; omega⟩⟩
theorem IsEnts.take {w : World} {a : Option Addr} {n cap : Nat} {L : List Ent} (h : IsEnts w (.slice a n cap) L) (p : Nat) (hp : p ≤ L.length) : IsEnts w (.slice a p cap) (L.take p) := by
  obtain ⟨a', cap', e, h1, h2, hx⟩ := h
  cases e
  refine ⟨a, cap, by rw [List.length_take, Nat.min_eq_left hp], by rw [List.length_take]; omega, h2, fun j hj => ?_⟩
  rw [List.length_take] at hj
  obtain ⟨b, off, vt, vp, e1, e2, e3, e4, e5⟩ := hx j (by omega)
  rw [List.getElem_take]
  exact ⟨b, off, vt, vp, e1, e2, e3, e4, e5⟩
theorem same_prefix {w : World} {va wa : Option Addr} {n1 vc n wc : Nat} {L M : List Ent} (h1 : IsEnts w (.slice va n1 vc) (L ++ M)) (h2 : IsEnts w (.slice wa n wc) L) (hn : n = L.length) :
    ∀ W, Below w.heap.size w W → Calls Try.prog 18 #[.slice va n vc, .slice wa n wc] W fun e w' => e = .returned (.bool true) ∧ Below W.heap.size W w' := fun W hW => by
  subst hn
  have h3 := (h1.keep hW).take L.length (by simp)
  rw [List.take_left] at h3
  exact refSameAll_any h3 (h2.keep hW) true (by simp)
theorem slice_upto (a : Option Addr) (n cap p : Nat) (hp : p ≤ cap) : ∀ W, (Instr.slice 26 (.slice a n cap) none (some (.int .i64 p)) none).run Try.prog W = .ok (.slice a p cap) W := fun W => by
  have := run_slice_h (P := Try.prog) W 26 a n cap ta_und .i64 p (by omega) (by omega)
  rw [ta_elem, ta_size] at this
  simp only [sliced, Result.andThen, Int.toNat_natCast] at this
  rw [this]
  by_cases hc : cap = 0
  · subst hc
    have : p = 0 := by omega
    simp [this]
  · rw [if_neg (by omega)]
    cases a with
    | none => simp
    | some ad =>
      obtain ⟨b, o, pth⟩ := ad
      simp [Addr.add]
/-- The state of TapeGrows behind some of its operations. -/
structure GrowsAt (w0 w : World) (g gd gt N k : Nat) (FD FL FT : Foot) (D : Dk) (l : Wl) (t : Tp) (H : List Ent) : Prop where
  live : LiveT w0 w FD FL FT g gd gt D l t
  calm : Calm D l N 1
  told : Told H l
  has : Tp.Has t H l
  low : l.low = 1
  few : H.length ≤ k
namespace GrowsAt
variable {w0 w w' : World} {g gd gt N k : Nat} {FD FL FT FD' FL' FT' : Foot} {D : Dk} {l : Wl} {t : Tp} {H : List Ent}
theorem more (h : GrowsAt w0 w g gd gt N k FD FL FT D l t H) (hb : Below w.heap.size w w') : GrowsAt w0 w' g gd gt N k FD FL FT D l t H := ⟨h.live.more hb, h.calm, h.told, h.has, h.low, h.few⟩
theorem len (h : GrowsAt w0 w g gd gt N k FD FL FT D l t H) : t.l.length ≤ k := by
  rw [h.has.l_]
  exact Nat.le_trans (List.length_filter_le _ _) h.few
theorem low1 (h : GrowsAt w0 w g gd gt N k FD FL FT D l t H) : ¬ t.upto < l.low := by have := h.low; have := h.has.one; omega
theorem append {r : Rc} (h : GrowsAt w0 w g gd gt N k FD FL FT D l t H) (hl : LiveL w0 w' FD FL' g gd D (l.app r).2.2) (st : Step (Both FD FL) (Both FD FL') w w') : ∃ H', GrowsAt w0 w' g gd gt N (k + 1) FD FL' FT D (l.app r).2.2 t H' := by
  have hL := h.live.log hl st
  by_cases he : (l.app r).2.1 = 0
  · obtain ⟨hmay, hpe, e1, e2⟩ := Wl.app_zero he
    rw [e2] at hL ⊢
    have hlow : (l.put r).low = l.low := by obtain ⟨_, _, _, _, _, _, _, _, h7, _⟩ := Wl.put_where h.calm.ok hpe; exact h7
    exact ⟨_, hL, h.calm.put hmay, h.told.put h.calm.ok hpe, h.has.put h.calm.ok hpe, by rw [hlow]; exact h.low, by rw [List.length_append]; have := h.few; simp; omega⟩
  · rw [Wl.app_same he] at hL ⊢
    exact ⟨H, hL, h.calm, h.told, h.has, h.low, by have := h.few; omega⟩
theorem flush (h : GrowsAt w0 w g gd gt N k FD FL FT D l t H) (hl : LiveL w0 w' FD' FL g gd (l.flush D).1 (l.flush D).2.1) (st : Step (Both FD FL) (Both FD' FL) w w') : GrowsAt w0 w' g gd gt N (k + 1) FD' FL FT (l.flush D).1 (l.flush D).2.1 t H := by
  have hlog := h.calm.log (by omega)
  refine ⟨h.live.log hl st, h.calm.flush (by omega), ?_, ?_, ?_, by have := h.few; omega⟩
  · rw [hlog]; exact h.told.like rfl rfl
  · rw [hlog]; exact h.has.like h.calm.ok.fe
  · rw [hlog]; exact h.low
theorem add (h : GrowsAt w0 w g gd gt N k FD FL FT D l t H) (hl : LiveT w0 w' FD FL FT' g gd gt D l (t.add l)) : GrowsAt w0 w' g gd gt N (k + 1) FD FL FT' D l (t.add l) H :=
  ⟨hl, h.calm, h.told, h.has.add h.told h.calm.ok (by have := h.low1; omega), h.low, by have := h.few; omega⟩
/-- What the law asks behind each operation. -/
theorem safe (h : GrowsAt w0 w g gd gt N k FD FL FT D l t H) : ∀ x ∈ t.l, x.1.tdiv 128 < (l.first : Int) := h.has.safe h.told
theorem pos (h : GrowsAt w0 w g gd gt N k FD FL FT D l t H) : ∀ x ∈ t.l, 0 ≤ x.1 ∧ x.1 ≤ 1099511627776 := fun x hx => by
  have h1 := h.safe x hx
  rw [h.has.l_] at hx
  have h2 := h.told.pos x (List.mem_filter.1 hx).1
  have h3 := h.calm.ok.fe; have h4 := h.calm.ok.lm; have h5 := h.calm.ok.len; have h6 := h.calm.ok.s64
  unfold Wl.end_ at h3
  rw [Int.tdiv_eq_ediv_of_nonneg (by omega)] at h1
  omega
end GrowsAt

set_option maxRecDepth 100000 in
set_option maxHeartbeats 16000000 in
theorem tapeGrows_long (n : Int) (v : Value) (ops : List OpT) (w : World) (hv : IsOpsT w v ops) (hlong : isLongT ops) :
    Calls Try.prog 4 #[.int .i64 n, v] w fun e w' => e = .returned (.bool true) ∧ Below w.heap.size w w' := by
  obtain ⟨N, hN8, hN28, hk⟩ := size_eq n 20 (by omega) (by omega)
  have HK := Lib.hid hk
  have LG := Lib.hid (fun W (hW : Below w.heap.size w W) => longT_any v ops W (hv.keep hW) true (by simp [hlong]))
  obtain ⟨a, cap, rfl, h1, h2, _⟩ := hv
  clear h1 h2 hk hlong
  go_enter Try.func4, Try.ntmps4
  go_wp2_with fail
  rw [HK.out]
  refine (new_ok N w (by omega) (by omega)).mono ?_
  rintro e w1 ⟨gd, FD, rfl, hd, hFD, hb1⟩
  have HD := Lib.hid hd
  have HFD := Lib.hid hFD
  have HB1 := Lib.hid hb1
  clear hd hFD hb1
  go_wp2_with fail
  refine (LiveL.make HD.out HFD.out HB1.out 0 N (by omega) (by omega) (by simp [Dk.new])).mono ?_
  rintro e w2 ⟨g, FL, rfl, hl2⟩
  have L2 := Lib.hid hl2.below
  clear hl2 HD HB1 HFD
  go_wp2_with fail
  refine (awake15_any _).mono ?_
  rintro e w3 ⟨rfl, hb3⟩
  have L3 := Lib.hid (below2 L2.out hb3)
  clear hb3 L2
  go_wp2_with fail
  refine (LG.out _ L3.out).mono ?_
  rintro e w4 ⟨rfl, hb4⟩
  have L4 := Lib.hid (below2 L3.out hb4)
  clear hb4 L3 LG
  go_wp2_with fail
  refine (awake15_any _).mono ?_
  rintro e w5 ⟨rfl, hb5⟩
  have L5 := Lib.hid (below2 L4.out hb5)
  clear hb5 L4
  go_wp2
  go_ret
  exact ⟨rfl, L5.out⟩

set_option maxRecDepth 100000 in
set_option maxHeartbeats 16000000 in
theorem tapeGrows_some (n : Int) (v : Value) (ops : List OpT) (w : World) (hv : IsOpsT w v ops) (hlong : ¬ isLongT ops) :
    Calls Try.prog 4 #[.int .i64 n, v] w fun e w' => e = .returned (.bool true) ∧ Below w.heap.size w w' := by
  have HV := Lib.hid hv
  obtain ⟨N, hN8, hN28, hk⟩ := size_eq n 20 (by omega) (by omega)
  have HK := Lib.hid hk
  have LG := Lib.hid (fun W (hW : Below w.heap.size w W) => longT_any v ops W (hv.keep hW) false (by simp [hlong]))
  have HFIT : Hid (∀ o ∈ ops, Fit o.r ∧ o.picks.length ≤ 200) := fun o ho => ⟨Classical.byContradiction fun h => hlong (.inl ⟨o, ho, .inl h⟩), Nat.not_lt.1 fun h => hlong (.inl ⟨o, ho, .inr h⟩)⟩
  have hm2 : (ops.length : Int) ≤ 200 := Int.not_lt.1 fun h => hlong (.inr (by omega))
  clear hlong
  obtain ⟨a, cap, rfl, h1, h2, _⟩ := hv
  have hm : (ops.length : Int) ≤ 9223372036854775807 := by unfold maxLen at h2; omega
  clear h1 h2 hk
  go_enter Try.func4, Try.ntmps4
  go_wp2_with fail
  rw [HK.out]
  refine (new_ok N w (by omega) (by omega)).mono ?_
  rintro e w1 ⟨gd, FD, rfl, hd, hFD, hb1⟩
  have HD := Lib.hid hd
  have HFD := Lib.hid hFD
  have HB1 := Lib.hid hb1
  clear hd hFD hb1
  go_wp2_with fail
  refine (LiveL.make HD.out HFD.out HB1.out 0 N (by omega) (by omega) (by simp [Dk.new])).mono ?_
  rintro e w2 ⟨g, FL, rfl, hl2⟩
  have L2 := Lib.hid hl2
  clear hl2 HD HB1 HFD
  go_wp2_with fail
  refine (awake15_any _).mono ?_
  rintro e w3 ⟨rfl, hb3⟩
  have L3 := Lib.hid (L2.out.more hb3)
  clear hb3 L2
  go_wp2_with fail
  refine (LG.out _ L3.out.below).mono ?_
  rintro e w4 ⟨rfl, hb4⟩
  have L4 := Lib.hid (L3.out.more hb4)
  clear hb4 L3 LG
  go_wp2_with fail
  refine (tapeNew_any _).mono ?_
  rintro e w5 ⟨rfl, hT, hb5⟩
  have START : Hid (GrowsAt w w5 g gd w4.heap.size N 0 FD FL (· = w4.heap.size) (Dk.new N) (Wl.new 0 N) Tp.new []) :=
    ⟨⟨L4.out.more hb5, hT, fun b hb => by subst hb; exact L4.out.below.size, fun b hb hf => by subst hb; rcases hf with hf | hf; (have := L4.out.sys.disk.lt _ hf; omega); (have := L4.out.sys.log.lt _ hf; omega)⟩, Calm.new hN8 (by omega), Told.new _ _, Tp.Has.new _ _, rfl, Nat.le_refl _⟩
  clear hT hb5 L4
  generalize w4.heap.size = gt at *
  go_wp2_with fail
  go_loopw [11, 12, 13, 14, 15, 16, 18, 53] (fun _ _ _ _ _ _ _ vk wr => ∃ k : Nat, vk = .int .i64 k ∧ k ≤ ops.length ∧ ∃ FD FL FT D l t H, GrowsAt w wr g gd gt N k FD FL FT D l t H) (fun _ _ _ _ _ _ _ vk _ => ops.length - (intOf vk).toNat)
  case atStart => exact ⟨0, rfl, Nat.zero_le _, FD, FL, _, _, _, _, _, START.out⟩
  case round =>
    obtain ⟨k, rfl, hk, FD2, FL2, FT2, D, lg, t, H, hst⟩ := hrel
    have ST := Lib.hid hst
    have HB := Lib.hid hst.live.live.below
    clear hst START
    by_cases hlt : k < ops.length
    · obtain ⟨b, off, cap', hva, _, _, hbw, hel⟩ := HV.out.at_ (by omega)
      cases hva
      obtain ⟨ta, tc, pa, pc, ka, kc, hls0, hsz, hrd, hnw, hpm, hc⟩ := hel k hlt
      have HLS := Lib.hid (hls0.keep HB.out)
      have HFP := Lib.hid (HFIT.out _ (List.getElem_mem hlt))
      obtain ⟨c0, c1, c2, c3, c4, c5, c6, c7, c8, c9, c10, c11, c12, c13⟩ := hc.keep HB.out
      clear hls0 hsz hel hc hrd hnw hpm
      generalize ops[k] = o at *
      have hn := Blk.new wr 53 opTZero
      have N3 := hn.setRow (opTCells o (.slice ta o.r.txns.length tc) (.slice pa o.r.pages.length pc) (.slice ka o.picks.length kc))
      have hb3 : Below wr.heap.size wr ((wr.alloc (.cells opTZero 53)).setRow wr.heap.size (opTCells o (.slice ta o.r.txns.length tc) (.slice pa o.r.pages.length pc) (.slice ka o.picks.length kc))) := below_setRow ((Below.refl _ _).alloc (Nat.le_refl _) _) (Nat.le_refl _) _
      have ST3 := Lib.hid (ST.out.more hb3)
      have HLS3 := Lib.hid (HLS.out.keep hb3)
      have HX0 : Hid (∀ b, Both FD2 FL2 b → b < wr.heap.size) := ST.out.live.lt
      go_upto_region 10 with (refine wpList_store_row rfl 53 _ _ rfl wr.heap.size _ rfl rfl 53 _ hn (by kernel_rfl) rfl (by simp [Value.oneCell']) ?_)
      clear hn hb3 c0 c1 c2 c3 c4 c5 c6 c7 c8 c9 c10 c11 c12 c13 HLS HB hbw ST
      change Code.wp _ _ _ _ ((wr.alloc (.cells opTZero 53)).setRow wr.heap.size (opTCells o (.slice ta o.r.txns.length tc) (.slice pa o.r.pages.length pc) (.slice ka o.picks.length kc)))
      generalize (wr.alloc (.cells opTZero 53)).setRow wr.heap.size (opTCells o (.slice ta o.r.txns.length tc) (.slice pa o.r.pages.length pc) (.slice ka o.picks.length kc)) = w3 at *
      generalize wr.heap.size = x at *
      have LS := Lib.hid (tapeList_any ST3.out.live.tape)
      go_wp2_with fail
      refine LS.out.mono ?_
      rintro e w6 ⟨vw, qw, rfl, hqw, how, hb6, hfw⟩
      have N6 := N3.keep hb6 N3.lt
      have ST6 := Lib.hid (ST3.out.more hb6)
      have HLS6 := Lib.hid (HLS3.out.keep hb6)
      have OFF : Hid (Off (Both FD2 FL2) vw qw ∧ Off FT2 vw qw) := ⟨Off.new how hfw fun b hb => ST3.out.live.lt b hb, Off.new how hfw fun b hb => ST3.out.live.tape.lt b hb⟩
      have OW := Lib.hid how
      have HQW := Lib.hid hqw
      have hqk : (qw.length : Int) ≤ 200 := by
        have e := congrArg List.length hqw
        rw [List.length_map] at e
        have := ST3.out.len
        omega
      obtain ⟨wa, wcp, hvw⟩ := own_slice how.own
      clear hqw how hb6 hfw LS ST3 N3 HLS3
      subst hvw
      have UP := Lib.hid (upto_any ST6.out.live.tape)
      go_wp2_with fail
      refine UP.out.mono ?_
      rintro e w7 ⟨rfl, rfl⟩
      clear UP
      have d0 : w6.cell? ⟨x, 0, none⟩ = some (.int .i64 o.kind) := N6.cell 0
      have d2 : w6.cell? ⟨x, 2, none⟩ = some (.int .i64 o.r.kind) := N6.cell 2
      have d3 : w6.cell? ⟨x, 3, none⟩ = some (.int .i64 o.r.txn) := N6.cell 3
      have d4 : w6.cell? ⟨x, 4, none⟩ = some (.int .i64 o.r.page) := N6.cell 4
      have d5 : w6.cell? ⟨x, 5, none⟩ = some (.int .i64 o.r.off) := N6.cell 5
      have d6 : w6.cell? ⟨x, 6, none⟩ = some (.int .i64 o.r.prev) := N6.cell 6
      have d7 : w6.cell? ⟨x, 7, none⟩ = some (.int .i64 o.r.next) := N6.cell 7
      have d8 : w6.cell? ⟨x, 8, none⟩ = some (.int .i64 o.r.beg) := N6.cell 8
      have d9 : w6.cell? ⟨x, 9, none⟩ = some (.string o.r.before) := N6.cell 9
      have d10 : w6.cell? ⟨x, 10, none⟩ = some (.string o.r.after) := N6.cell 10
      have d11 : w6.cell? ⟨x, 11, none⟩ = some (.slice ta o.r.txns.length tc) := N6.cell 11
      have d12 : w6.cell? ⟨x, 12, none⟩ = some (.slice pa o.r.pages.length pc) := N6.cell 12
      have IR : Hid (IsRec w6 (.agg (recCells o.r (.slice ta o.r.txns.length tc) (.slice pa o.r.pages.length pc))) o.r) := ⟨_, _, rfl, HLS6.out⟩
      clear N6 HLS6
      go_upto_block 2 with fail
      go_cut [14, 15, 53] from 53 to 132 (fun s14 s15 s53 wx => s53 = .int .i64 k ∧ ∃ FD FL FT D l t' H m, GrowsAt w wx g gd gt N (k + 1) FD FL FT D l t' H ∧ t.upto ≤ t'.upto ∧ t'.l = t.l ++ m ∧ IsEnts wx (.slice wa qw.length wcp) t.l)
      case first =>
        by_cases k1 : o.kind = 1
        · go_wp2_with fail
          refine (ST6.out.live.live.append IR.out HFP.out.1).mono ?_
          rintro e w7 ⟨rfl, FL7, hL7, st7⟩
          obtain ⟨H7, h7⟩ := ST6.out.append hL7 st7
          have ST7 := Lib.hid h7
          have E7 : Hid (IsEnts w7 (.slice wa qw.length wcp) t.l) := by
            have := (OW.out.only (S := Both FD2 FL2) ⟨st7.os, st7.tape, st7.output, st7.size, st7.block⟩ OFF.out.1).isEnts
            rw [HQW.out] at this
            exact this
          clear d0 d2 d3 d4 d5 d6 d7 d8 d9 d10 d11 d12 IR ST6 OW OFF hL7 st7 h7
          generalize (lg.app o.r).2.1 = er at *
          generalize (lg.app o.r).1 = at7 at *
          go_wp2_with fail
          go_meet
          exact ⟨rfl, _, _, _, _, _, t, _, [], ST7.out, Nat.le_refl _, by simp, E7.out⟩
        by_cases k2 : o.kind = 2
        · have FLU := Lib.hid (ST6.out.live.live.flush (ST6.out.calm.hep (by omega)) ST6.out.calm.hw)
          clear d2 d3 d4 d5 d6 d7 d8 d9 d10 d11 d12 IR
          go_wp2_with fail
          refine FLU.out.mono ?_
          rintro e w7 ⟨rfl, FD7, hL7, st7⟩
          have ST7 := Lib.hid (ST6.out.flush hL7 st7)
          have E7 : Hid (IsEnts w7 (.slice wa qw.length wcp) t.l) := by
            have := (OW.out.only (S := Both FD2 FL2) ⟨st7.os, st7.tape, st7.output, st7.size, st7.block⟩ OFF.out.1).isEnts
            rw [HQW.out] at this
            exact this
          clear d0 ST6 OW OFF hL7 st7 FLU
          generalize (lg.flush D).2.2 = er at *
          go_wp2_with fail
          go_meet
          exact ⟨rfl, _, _, _, _, _, t, _, [], ST7.out, Nat.le_refl _, by simp, E7.out⟩
        · have ADD := Lib.hid (ST6.out.live.add (by have := ST6.out.len; omega))
          have herr : t.err lg = 0 := if_neg ST6.out.low1
          rw [herr] at ADD
          obtain ⟨m, hm1, hm3⟩ := Tp.add_l t lg
          have hup := Tp.add_end t lg
          have HM := Lib.hid (And.intro hm1 hup)
          have hlw : qw.length = t.l.length := by
            have e := congrArg List.length HQW.out
            rw [List.length_map] at e
            exact e
          have HLW := Lib.hid hlw
          have HM3 := Lib.hid hm3
          clear d2 d3 d4 d5 d6 d7 d8 d9 d10 d11 d12 IR hm1 hup herr hlw hm3
          go_wp2_with fail
          refine ADD.out.mono ?_
          rintro e w7 ⟨rfl, FT7, hL7, st7⟩
          have h7 := ST6.out.add hL7
          have ST7 := Lib.hid h7
          have E7 : Hid (IsEnts w7 (.slice wa qw.length wcp) t.l) := by
            have := (OW.out.only (S := FT2) ⟨st7.os, st7.tape, st7.output, st7.size, st7.block⟩ OFF.out.2).isEnts
            rw [HQW.out] at this
            exact this
          have LS := Lib.hid (tapeList_any h7.live.tape)
          have hl7 := h7.len
          have HL7 := Lib.hid hl7
          clear d0 ST6 OW OFF hL7 st7 ADD h7 hl7
          go_wp2_with fail
          refine LS.out.mono ?_
          rintro e w8 ⟨v8, q8, rfl, hq8, ho8, hb8, -⟩
          have hq8l : (q8.length : Int) = qw.length + t.addN lg := by
            have e := congrArg List.length hq8
            rw [List.length_map, HM.out.1, List.length_append, HM3.out] at e
            have := HLW.out
            omega
          have hqk8 : (q8.length : Int) ≤ 201 := by
            have e := congrArg List.length hq8
            rw [List.length_map] at e
            have := HL7.out
            omega
          have ST8 := Lib.hid (ST7.out.more hb8)
          have E8 := Lib.hid (E7.out.keep hb8)
          obtain ⟨va8, vc8, hv8⟩ := own_slice ho8.own
          clear hq8 ho8 hb8 LS ST7 E7
          subst hv8
          go_wp2_with fail
          go_meet
          exact ⟨rfl, _, _, _, _, _, _, _, m, ST8.out, HM.out.2, HM.out.1, E8.out⟩
      case rest =>
        obtain ⟨rfl, FD7, FL7, FT7, D7, l7, t7, H7, m, h7, hup, hpre, hE⟩ := hcut
        have ST7 := Lib.hid h7
        have HPRE := Lib.hid hpre
        have E7 := Lib.hid hE
        have LS := Lib.hid (tapeList_any h7.live.tape)
        have hlw : qw.length = t.l.length := by
          have e := congrArg List.length HQW.out
          rw [List.length_map] at e
          exact e
        have HLW := Lib.hid hlw
        have HUP := Lib.hid hup
        clear h7 hup hpre hE hlw d0 d2 d3 d4 d5 d6 d7 d8 d9 d10 d11 d12 IR ST6 OW OFF HFP HX0
        go_wp2_with fail
        refine LS.out.mono ?_
        rintro e w8 ⟨v8, q8, rfl, hq8, ho8, hb8, -⟩
        have ST8 := Lib.hid (ST7.out.more hb8)
        have E8 := Lib.hid (E7.out.keep hb8)
        have O8 := Lib.hid ho8.isEnts
        rw [hq8] at O8
        have Q8 := Lib.hid hq8
        have HO8 := Lib.hid ho8
        have hl8 : q8.length = t7.l.length := by
          have e := congrArg List.length hq8
          rw [List.length_map] at e
          exact e
        have hge : qw.length ≤ q8.length := by rw [hl8, HLW.out, HPRE.out, List.length_append]; omega
        have hge2 : ¬ (q8.length : Int) < qw.length := by omega
        have hq8k : (q8.length : Int) ≤ 201 := by have := ST8.out.len; omega
        have hup1 : ¬ (t7.upto : Int) < t.upto := by have := HUP.out; omega
        have hop := ST8.out.has.open_ ST8.out.calm.ok
        have hnx : ¬ (l7.openNo : Int) < t7.upto := by omega
        obtain ⟨va8, vc8, hv8⟩ := own_slice ho8.own
        have hcap : q8.length ≤ vc8 := by
          rcases own_any ho8.own with ⟨e, h0, _⟩ | ⟨g0, cap0, e, h0, _⟩
          · rw [hv8] at e
            injection e with _ _ e3
            omega
          · rw [hv8] at e
            injection e with _ _ e3
            omega
        subst hv8
        obtain ⟨y, hy⟩ : ∃ y, y = Value.slice va8 qw.length vc8 := ⟨_, rfl⟩
        have hsl : ∀ W, (Instr.slice 26 (.slice va8 q8.length vc8) none (some (.int .i64 qw.length)) none).run Try.prog W = .ok y W := by
          rw [hy]
          exact slice_upto va8 q8.length vc8 qw.length (by omega)
        have SAME : Hid (∀ W, Below w8.heap.size w8 W → Calls Try.prog 18 #[y, .slice wa qw.length wcp] W fun e w' => e = .returned (.bool true) ∧ Below W.heap.size W w') := by
          have h1 := O8.out
          rw [HPRE.out] at h1
          rw [hy]
          exact same_prefix h1 E8.out HLW.out
        have UP := Lib.hid (fun W (hW : Below w8.heap.size w8 W) => upto_any (ST8.out.more hW).live.tape)
        have NX := Lib.hid (fun W (hW : Below w8.heap.size w8 W) => next_any (ST8.out.more hW).live.live.sys.log)
        clear hq8 ho8 hb8 LS ST7 E7 O8 hl8 hge hy HPRE HLW HUP hop
        go_wp2_with fail
        refine (UP.out _ (by exact Below.refl _ _)).mono ?_
        rintro e w9 ⟨rfl, rfl⟩
        go_wp2_with fail
        refine (SAME.out _ (by exact Below.refl _ _)).mono ?_
        rintro e w9 ⟨rfl, hb9⟩
        have HB9 := Lib.hid hb9
        clear hb9
        go_wp2_with fail
        refine (UP.out _ HB9.out).mono ?_
        rintro e w10 ⟨rfl, rfl⟩
        go_wp2_with fail
        refine (NX.out _ HB9.out).mono ?_
        rintro e w10 ⟨rfl, n10, rfl⟩
        have HB10 := Lib.hid (below2 HB9.out (drewN_below w9 n10))
        clear HB9
        generalize w9.drewN n10 = w10 at *
        clear UP NX SAME E8
        go_upto_if 119 with fail
        go_cut [53] from 53 to 132 (fun s53 wx => s53 = .int .i64 k ∧ Below w8.heap.size w8 wx)
        case first =>
          go_wp2_with fail
          go_meet
          exact ⟨rfl, HB10.out⟩
        obtain ⟨rfl, hbc⟩ := hcut
        clear HB10
        have HB10 := Lib.hid hbc
        clear hbc hup1 hge2 hnx
        go_wp2_with fail
        go_loopw [18, 122] (fun _ vj ws => ∃ j : Nat, vj = .int .i64 j ∧ j ≤ q8.length ∧ Below w8.heap.size w8 ws) (fun _ vj _ => q8.length - (intOf vj).toNat)
        case atStart => exact ⟨0, rfl, Nat.zero_le _, HB10.out⟩
        case round =>
          obtain ⟨j, rfl, hj, hbj⟩ := hrel
          have HBJ := Lib.hid hbj
          clear hbj HB10
          by_cases hlj : j < q8.length
          · have hO := HO8.out.keep HBJ.out
            obtain ⟨gq, cq, hvq, _, _⟩ := own_form hO.own (by omega)
            injection hvq with e1 e2 e3
            subst e1
            subst e3
            have hcell : ∀ i u, i < 12 → q8[j].cells[i]? = some u → wr.cell? ⟨gq, j * 12 + i, none⟩ = some u := fun i u hi hu => by
              rw [hO.own.cellAt (g := gq) (j * 12 + i) (by omega), entsV_at q8 j hlj i hi]
              exact hu
            have hll := hO.lists _ (List.getElem_mem hlj)
            have hmem : q8[j].ent ∈ t7.l := by rw [← Q8.out]; exact List.mem_map.2 ⟨q8[j], List.getElem_mem hlj, rfl⟩
            have hsf := ST8.out.safe _ hmem
            have hps := ST8.out.pos _ hmem
            have hji : (j : Int) < q8.length := by omega
            generalize q8[j] = X at *
            obtain ⟨xa, xr, xt, xp⟩ := X
            simp only [Qe.ent] at hsf hps
            have c0 : wr.cell? ⟨gq, j * 12, none⟩ = some (.int .i64 xa) := hcell 0 _ (by omega) rfl
            have c1 : wr.cell? ⟨gq, j * 12 + 1, none⟩ = some (.int .i64 xr.kind) := hcell 1 _ (by omega) rfl
            have c2 : wr.cell? ⟨gq, j * 12 + 2, none⟩ = some (.int .i64 xr.txn) := hcell 2 _ (by omega) rfl
            have c3 : wr.cell? ⟨gq, j * 12 + 3, none⟩ = some (.int .i64 xr.page) := hcell 3 _ (by omega) rfl
            have c4 : wr.cell? ⟨gq, j * 12 + 4, none⟩ = some (.int .i64 xr.off) := hcell 4 _ (by omega) rfl
            have c5 : wr.cell? ⟨gq, j * 12 + 5, none⟩ = some (.int .i64 xr.prev) := hcell 5 _ (by omega) rfl
            have c6 : wr.cell? ⟨gq, j * 12 + 6, none⟩ = some (.int .i64 xr.next) := hcell 6 _ (by omega) rfl
            have c7 : wr.cell? ⟨gq, j * 12 + 7, none⟩ = some (.int .i64 xr.beg) := hcell 7 _ (by omega) rfl
            have c8 : wr.cell? ⟨gq, j * 12 + 8, none⟩ = some (.string xr.before) := hcell 8 _ (by omega) rfl
            have c9 : wr.cell? ⟨gq, j * 12 + 9, none⟩ = some (.string xr.after) := hcell 9 _ (by omega) rfl
            have c10 : wr.cell? ⟨gq, j * 12 + 10, none⟩ = some xt := hcell 10 _ (by omega) rfl
            have c11 : wr.cell? ⟨gq, j * 12 + 11, none⟩ = some xp := hcell 11 _ (by omega) rfl
            obtain ⟨xta, xtc, hxt⟩ := hll.t.form
            obtain ⟨xpa, xpc, hxp⟩ := hll.p.form
            simp only at hxt hxp
            subst hxt
            subst hxp
            obtain ⟨A, hA⟩ := Int.eq_ofNat_of_zero_le hps.1
            have hA2 : A ≤ 1099511627776 := by omega
            have hA3 : A / 128 < l7.first := by rw [hA, Int.tdiv_eq_ediv_of_nonneg (by omega)] at hsf; omega
            have SAFE : Hid (∀ W, Below wr.heap.size wr W → Calls Try.prog 20 #[.pointer (some ⟨g, 0, none⟩), .int .i64 xa] W fun e w' => e = .returned (.bool true) ∧ W = w') := fun W hW => by
              rw [hA]
              exact safe_any (ST8.out.more (below2 HBJ.out hW)).live.live.sys.log A hA2 true (by rw [decide_eq_true hA3])
            have hn := Blk.new wr 58 #[.int .i64 0, .int .i64 0, .int .i64 0, .int .i64 0, .int .i64 0, .int .i64 0, .int .i64 0, .int .i64 0, .string ⟨#[]⟩, .string ⟨#[]⟩, .slice none 0 0, .slice none 0 0]
            have hb12 : Below wr.heap.size wr ((wr.alloc (.cells #[.int .i64 0, .int .i64 0, .int .i64 0, .int .i64 0, .int .i64 0, .int .i64 0, .int .i64 0, .int .i64 0, .string ⟨#[]⟩, .string ⟨#[]⟩, .slice none 0 0, .slice none 0 0] 58)).setRow wr.heap.size (Qe.cells ⟨xa, xr, .slice xta xr.txns.length xtc, .slice xpa xr.pages.length xpc⟩).toArray) := below_setRow ((Below.refl _ _).alloc (Nat.le_refl _) _) (Nat.le_refl _) _
            have N12 := hn.setRow (Qe.cells ⟨xa, xr, .slice xta xr.txns.length xtc, .slice xpa xr.pages.length xpc⟩).toArray
            have S12 := Lib.hid (SAFE.out _ hb12)
            have HB12 := Lib.hid (below2 HBJ.out hb12)
            clear hcell hll hmem hsf hps hO hA hA2 hA3 SAFE hb12
            go_upto_region 25 with (refine wpList_store_row rfl 58 _ _ rfl wr.heap.size _ rfl rfl 58 _ hn (by kernel_rfl) rfl (by simp [Value.oneCell']) ?_)
            clear hn c0 c1 c2 c3 c4 c5 c6 c7 c8 c9 c10 c11
            change Code.wp _ _ _ _ ((wr.alloc (.cells #[.int .i64 0, .int .i64 0, .int .i64 0, .int .i64 0, .int .i64 0, .int .i64 0, .int .i64 0, .int .i64 0, .string ⟨#[]⟩, .string ⟨#[]⟩, .slice none 0 0, .slice none 0 0] 58)).setRow wr.heap.size (Qe.cells ⟨xa, xr, .slice xta xr.txns.length xtc, .slice xpa xr.pages.length xpc⟩).toArray)
            generalize (wr.alloc (.cells #[.int .i64 0, .int .i64 0, .int .i64 0, .int .i64 0, .int .i64 0, .int .i64 0, .int .i64 0, .int .i64 0, .string ⟨#[]⟩, .string ⟨#[]⟩, .slice none 0 0, .slice none 0 0] 58)).setRow wr.heap.size (Qe.cells ⟨xa, xr, .slice xta xr.txns.length xtc, .slice xpa xr.pages.length xpc⟩).toArray = w12 at *
            have e0 : w12.cell? ⟨wr.heap.size, 0, none⟩ = some (.int .i64 xa) := N12.cell 0
            clear N12
            go_wp2_with fail
            refine S12.out.mono ?_
            rintro e w13 ⟨rfl, rfl⟩
            go_wp2_with fail
            go_roundw
            case rel => exact ⟨j + 1, by go_num, by omega, HB12.out⟩
            case measure => simp [intOf]; omega
          · obtain rfl : j = q8.length := by omega
            have FIN := Lib.hid (ST8.out.more HBJ.out)
            clear HBJ ST8
            go_wp2_with fail
            go_roundw
            case rel => exact ⟨k + 1, by go_num, by omega, _, _, _, _, _, _, _, FIN.out⟩
            case measure => simp [intOf]; omega
    · obtain rfl : k = ops.length := by omega
      go_wp2
      go_ret
      exact ⟨rfl, HB.out⟩
theorem walkTapeGrows (n : Int) (v : Value) (ops : List OpT) (w : World) (_ : (Lit.int .i64 n).wf = true) (hv : IsOpsT w v ops) :
    Calls Try.prog 4 #[.int .i64 n, v] w fun e w' => e = .returned (.bool true) ∧ Below w.heap.size w w' := by
  by_cases h : isLongT ops
  · exact tapeGrows_long n v ops w hv h
  · exact tapeGrows_some n v ops w hv h
end Go.Proofs.Ytpcfhpffbogjmaa

/- careenlaw15.TapeGrows: it returns true for every input, and leaves its arguments as they were: the row's proof, out of the walk.
   Conditions: none beside the row's own (each argument is read as data). -/
namespace Go.Proofs.Ytpcfhpffbogjmaa.tapeGrows
open Go.ChangeShapes Go.WideShapes Go.ChangeAt Go.RowKit Go.Joins
open Go.ChangeMaps (open_string shut_string)
set_option linter.unusedVariables false

theorem own : ownKnob Try.prog.godebug = none := by kernel_rfl
theorem laidOut : laidOutB Try.prog = true := by kernel_rfl

set_option maxRecDepth 100000 in
theorem lifted (os : Os) (started : os.Started) (H : Type) (enc : TypeId × Value → H) :
    ReturnsInHanded {} Try.checked os 4 .any (Rows.tapeGrowsSpec.pre6 enc Try.prog Try.f4 Rows.tapeGrowsRow.domain false) (Rows.tapeGrowsSpec.post enc Try.prog Try.f4 false true false false) := by
  refine returnsInHanded_of_change (C := Try.checked) own started (by kernel_rfl) Try.func4
    (ChangeSpec.witness6 (enc := enc) (C := Try.checked) false ⟨#[], #[.int .i64 0, .slice none 0 0], []⟩ 8 (by kernel_rfl) (by kernel_rfl) (by kernel_rfl) (by kernel_rfl)) ?_
  intro W base args ds gs before hval0 hW hcnd _
  have hval : ∀ (j : Nat) t v, Try.f4.params[j]? = some t → args[j]? = some v → Value.okWide Try.prog W .any base t v := hval0
  have hW' := hW
  obtain ⟨p, q, hA0, hV, rfl, hfz, hnd⟩ := hW
  have hA : DataW.TrodAll enc Try.prog W 0 (fun _ => true) true Try.f4.params.toList args.toList ds p := hA0
  rw [Try.params4] at hA hval
  obtain ⟨v0, vs0, d0, ds0, p0, q0, hargs, rfl, rfl, h0, r0⟩ := trodAll_cons hA
  obtain ⟨v1, vs1, d1, ds1, p1, q1, rfl, rfl, rfl, h1, r1⟩ := trodAll_cons r0
  obtain ⟨rfl, rfl, rfl⟩ := trodAll_nil r1
  obtain rfl : args = #[v0, v1] := by cases args; simp_all
  obtain ⟨rfl, rfl⟩ := trodVars_none hV
  have k0 := h0
  have lt0 : ∀ x ∈ p0, x.block < W.heap.size := by obtain ⟨m, hm⟩ := k0; exact DataW.trod_lt m _ _ _ hm
  have k1 := h1
  have lt1 : ∀ x ∈ p1, x.block < W.heap.size := by obtain ⟨m, hm⟩ := k1; exact DataW.trod_lt m _ _ _ hm
  obtain ⟨a0, rfl, rfl, rfl, w0⟩ := open_int Try.underlying3 (hval 0 3 v0 rfl rfl) h0
  obtain ⟨a1, w1⟩ := open_opsT (hval 1 38 v1 rfl rfl) h1
  clear hA0 hval0
  refine (walkTapeGrows a0 v1 a1 W w0 w1).mono fun e W' ⟨he, bel⟩ => ?_
  subst he
  exact ⟨_, rfl, _, _, _, [], _, [], hW', trodAll_mk1 (shut_bool Try.underlying4 _), (trodAll_cons_mk (Below.trod laidOut (by kernel_rfl) (of_decide_eq_true (by kernel_rfl)) k0 bel lt0) (trodAll_cons_mk (Below.trod laidOut (by kernel_rfl) (of_decide_eq_true (by kernel_rfl)) k1 bel lt1) trodAll_mk0)), rfl, bel.frame _, fun h => by cases h⟩

theorem over : Rows.tapeGrowsRow.holds Try.pinned (OpenSpec.ofChange Rows.tapeGrowsSpec) :=
  OpenClaim.holds_of_wide 4 Try.f4 rfl rfl rfl rfl rfl rfl rfl ⟨rfl, rfl, rfl, rfl, rfl⟩ rfl rfl rfl rfl rfl (by kernel_rfl) Try.func4 (by kernel_rfl)
    (of_decide_eq_true (by kernel_rfl)) (by unfold Func.isWrapper; first | (rw [if_pos (by decide +kernel)]; kernel_rfl) | (rw [if_neg (by decide +kernel)]; exact ⟨rfl, rfl⟩))
    (fun os started H enc _ => lifted os started H enc)

/-- The given statement. -/
theorem proved : Rows.TapeGrowsSaid := over
end Go.Proofs.Ytpcfhpffbogjmaa.tapeGrows
