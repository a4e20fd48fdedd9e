/- careenlaw07.StoreWhole: it returns true for every input, and leaves its arguments as they were: the row's proof, out of the walk.
   Conditions: none beside the row's own (each argument is read as data). -/
import Derived.Test.YtpjkejgnnceanaaOpenL
import Derived.Test.YtpjkejgnnceanaaOpen
import Derived.Test.YtpjkejgnnceanaaJdisk
import Derived.Test.YtpjkejgnnceanaaJsoB
import Derived.Test.YtpjkejgnnceanaaUint
import Derived.Test.YtpjkejgnnceanaaJsoA
import Derived.Deep.CutBlock
import Derived.ProofKit
import Derived.OpenShut
import Derived.ShutString
import Derived.ChangeOld
import Derived.Below
import Derived.Lib.SmallJoins
/- careenlaw07: operations that came in; are there more than are played? -/
namespace Go.Proofs.Ytpjkejgnnceanaa
open Go.ChangeShapes Go.WideShapes Go.RowKit
set_option maxRecDepth 100000

theorem Reads.own {w : World} {v : Value} {vs : List Value} (h : Reads w v vs) (hn : vs ≠ []) : ∀ b, v.ownBlock = some b → b < w.heap.size := by
  rcases h.cases with ⟨rfl, _⟩ | ⟨b, off, cap, rfl, _, _, hb, _⟩
  · exact absurd rfl hn
  · intro b' hb'
    simp only [Value.ownBlock, Option.some.injEq] at hb'
    omega
structure Op7 where
  kind : Int
  i : Int
  n : Int
  at_ : Int
  data : ByteArray
  picks : List UInt8
def op7Cells (o : Op7) (pv : Value) : Array Value := #[.int .i64 o.kind, .int .i64 o.i, .int .i64 o.n, .int .i64 o.at_, .string o.data, pv]
structure Op7Wf (o : Op7) : Prop where
  kind : (Lit.int .i64 o.kind).wf = true
  i : (Lit.int .i64 o.i).wf = true
  n : (Lit.int .i64 o.n).wf = true
  at_ : (Lit.int .i64 o.at_).wf = true
  data : o.data.size ≤ maxLen
  picks : o.picks.length ≤ maxLen
def Op7Q (w : World) (cs : List Value) (o : Op7) : Prop := ∃ pv, cs = (op7Cells o pv).toList ∧ Reads w pv (byteVs o.picks) ∧ Op7Wf o
abbrev IsOps7 (w : World) (v : Value) (l : List Op7) : Prop := ListOf 6 Op7Q w v l
theorem Op7Q.keep {w w' : World} {cs : List Value} {o : Op7} (h : Op7Q w cs o) (hb : Below w.heap.size w w') : Op7Q w' cs o := by
  obtain ⟨pv, e, hr, hw⟩ := h
  exact ⟨pv, e, hr.keep hb, hw⟩
theorem IsOps7.keep {w w' : World} {v : Value} {l : List Op7} (h : IsOps7 w v l) (hb : Below w.heap.size w w') : IsOps7 w' v l := ListOf.keep h (fun _ _ hq => hq.keep hb) hb
theorem cellsOp7 : Try.prog.cellsOf 39 = 6 := by kernel_rfl
theorem cellsInt7 : Try.prog.cellsOf 3 = 1 := by kernel_rfl
theorem cellsByte7 : Try.prog.cellsOf 5 = 1 := by kernel_rfl
theorem cellsStr7 : Try.prog.cellsOf 9 = 1 := by kernel_rfl
theorem cellsPage7 : Try.prog.cellsOf 34 = 2 := by kernel_rfl
theorem cellsPicks7 : Try.prog.cellsOf 37 = 1 := by kernel_rfl
theorem read_op7 {H : Type} {enc : TypeId × Value → H} {W : World} {n : Nat} {cs : List Value} {y : DataW H × List MemPlace} (hcl : cs.length = 6) (h : DataW.trod enc Try.prog W 0 (fun _ => true) true n 39 cs = some y) : ∃ o : Op7, Op7Q W cs o := by
  obtain ⟨xs, k, _, _, _, hxl, hg⟩ := DataW.trod_struct Try.underlying39 h
  match cs, hcl with
  | [x0, x1, x2, x3, x4, x5], _ =>
    match xs, hxl with
    | [y0, y1, y2, y3, y4], _ =>
      have g0 : DataW.trod enc Try.prog W 0 (fun _ => true) true k 3 (([x0, x1, x2, x3, x4, x5].drop 0).take (Try.prog.cellsOf 3)) = [y0, y1, y2, y3, y4][0]? := hg 0 _ rfl
      have g1 : DataW.trod enc Try.prog W 0 (fun _ => true) true k 3 (([x0, x1, x2, x3, x4, x5].drop 1).take (Try.prog.cellsOf 3)) = [y0, y1, y2, y3, y4][1]? := hg 1 _ rfl
      have g2 : DataW.trod enc Try.prog W 0 (fun _ => true) true k 3 (([x0, x1, x2, x3, x4, x5].drop 2).take (Try.prog.cellsOf 3)) = [y0, y1, y2, y3, y4][2]? := hg 2 _ rfl
      have g3 : DataW.trod enc Try.prog W 0 (fun _ => true) true k 34 (([x0, x1, x2, x3, x4, x5].drop 3).take (Try.prog.cellsOf 34)) = [y0, y1, y2, y3, y4][3]? := hg 3 _ rfl
      have g4 : DataW.trod enc Try.prog W 0 (fun _ => true) true k 37 (([x0, x1, x2, x3, x4, x5].drop 5).take (Try.prog.cellsOf 37)) = [y0, y1, y2, y3, y4][4]? := hg 4 _ rfl
      simp only [cellsInt7, cellsPage7, cellsPicks7, List.drop_zero, List.drop_succ_cons, List.take_succ_cons, List.take_zero, List.getElem?_cons_zero, List.getElem?_cons_succ] at g0 g1 g2 g3 g4
      obtain ⟨z0, e0, _, w0⟩ := DataW.trod_int Try.underlying3 g0
      obtain ⟨z1, e1, _, w1⟩ := DataW.trod_int Try.underlying3 g1
      obtain ⟨z2, e2, _, w2⟩ := DataW.trod_int Try.underlying3 g2
      obtain ⟨v5, l5, e5, r5, h5⟩ := reads_bytes Try.underlying37 Try.underlying5 cellsByte7 g4
      obtain ⟨ps, k2, _, _, _, hpl, hp⟩ := DataW.trod_struct Try.underlying34 g3
      match ps, hpl with
      | [p0, p1], _ =>
        have q0 : DataW.trod enc Try.prog W 0 (fun _ => true) true k2 3 (([x3, x4].drop 0).take (Try.prog.cellsOf 3)) = [p0, p1][0]? := hp 0 _ rfl
        have q1 : DataW.trod enc Try.prog W 0 (fun _ => true) true k2 9 (([x3, x4].drop 1).take (Try.prog.cellsOf 9)) = [p0, p1][1]? := hp 1 _ rfl
        simp only [cellsInt7, cellsStr7, List.drop_zero, List.drop_succ_cons, List.take_succ_cons, List.take_zero, List.getElem?_cons_zero, List.getElem?_cons_succ] at q0 q1
        obtain ⟨z3, e3, _, w3⟩ := DataW.trod_int Try.underlying3 q0
        obtain ⟨z4, e4, _, w4⟩ := DataW.trod_string Try.underlying9 q1
        simp only [List.cons.injEq, and_true] at e0 e1 e2 e3 e4 e5
        subst e0 e1 e2 e3 e4 e5
        exact ⟨⟨z0, z1, z2, z3, z4, l5⟩, x5, rfl, r5, ⟨w0, w1, w2, w3, w4, h5⟩⟩
theorem open_ops7 {H : Type} {enc : TypeId × Value → H} {W : World} {b0 : Nat} {r : Reach} {v : Value} {d : DataW H} {p : List MemPlace} (hval : Value.okWide Try.prog W r b0 22 v) (h : DataW.Trod enc Try.prog W 0 (fun _ => true) true 22 v d p) :
    ∃ l, IsOps7 W v l :=
  haveI : Inhabited Op7 := ⟨⟨0, 0, 0, 0, ⟨#[]⟩, []⟩⟩
  open_list Try.underlying22 6 (by decide) cellsOp7 hval h Op7Q fun _ _ _ hcl ht => read_op7 hcl ht
/-- An operation in cells behind one another. -/
structure Op7At (w : World) (b o : Nat) (x : Op7) (pv : Value) : Prop where
  c0 : w.cell? ⟨b, o, none⟩ = some (.int .i64 x.kind)
  c1 : w.cell? ⟨b, o + 1, none⟩ = some (.int .i64 x.i)
  c2 : w.cell? ⟨b, o + 2, none⟩ = some (.int .i64 x.n)
  c3 : w.cell? ⟨b, o + 3, none⟩ = some (.int .i64 x.at_)
  c4 : w.cell? ⟨b, o + 4, none⟩ = some (.string x.data)
  c5 : w.cell? ⟨b, o + 5, none⟩ = some pv
theorem Op7At.mk' {w : World} {b o : Nat} {x : Op7} {pv : Value} (h : ∀ i u, (op7Cells x pv)[i]? = some u → w.cell? ⟨b, o + i, none⟩ = some u) : Op7At w b o x pv :=
  ⟨h 0 _ rfl, h 1 _ rfl, h 2 _ rfl, h 3 _ rfl, h 4 _ rfl, h 5 _ rfl⟩
theorem Op7At.keep {w w' : World} {b o : Nat} {x : Op7} {pv : Value} (h : Op7At w b o x pv) (hb : Below w.heap.size w w') : Op7At w' b o x pv := by
  have hlt := World.block_lt_of_cell? w ⟨b, o, none⟩ h.c0
  have k : ∀ x, w'.cell? ⟨b, x, none⟩ = w.cell? ⟨b, x, none⟩ := fun x => hb.cell (p := ⟨b, x, none⟩) hlt
  exact ⟨(k _).trans h.c0, (k _).trans h.c1, (k _).trans h.c2, (k _).trans h.c3, (k _).trans h.c4, (k _).trans h.c5⟩
theorem IsOps7.at_ {w : World} {v : Value} {l : List Op7} (h : IsOps7 w v l) (hl : 0 < l.length) : ∃ b off cap, v = .slice (some ⟨b, off, none⟩) l.length cap ∧ l.length ≤ cap ∧ cap ≤ maxLen ∧ b < w.heap.size ∧
    ∀ j (hj : j < l.length), ∃ ka kc, Reads w (.slice ka l[j].picks.length kc) (byteVs l[j].picks) ∧ Op7Wf l[j] ∧ (l[j].picks ≠ [] → ∀ b, (Value.slice ka l[j].picks.length kc).ownBlock = some b → b < w.heap.size) ∧ Op7At w b (off + j * 6) l[j] (.slice ka l[j].picks.length kc) := by
  rcases h.cases with ⟨rfl, _⟩ | ⟨b, off, cap, rfl, _, h2, h3, h4, h5⟩
  · simp at hl
  refine ⟨b, off, cap, rfl, h2, h3, h4, fun j hj => ?_⟩
  obtain ⟨cs, ⟨pv, rfl, hr, hw⟩, hc⟩ := h5 j hj
  have hw2 : l[j].picks ≠ [] → ∀ b, pv.ownBlock = some b → b < w.heap.size := fun hp => hr.own (by intro e; apply hp; have := congrArg List.length e; simp [byteVs] at this; exact this)
  have hr2 := hr
  obtain ⟨ka, kc, e'', _⟩ := hr2
  rw [show (byteVs l[j].picks).length = l[j].picks.length by simp [byteVs]] at e''
  subst e''
  exact ⟨ka, kc, hr, hw, hw2, .mk' fun i u hu => hc i u (by rw [Array.getElem?_toList]; exact hu)⟩

def isLong7 (ops : List Op7) : Prop := (∃ o ∈ ops, 500 < o.data.size ∨ 200 < o.picks.length) ∨ 200 < ops.length
/-- The variable's cells, spelled as the walk spells them. -/
def op7Zero : Array Value := #[.int .i64 0, .int .i64 0, .int .i64 0, .int .i64 0, .string ⟨#[]⟩, .slice none 0 0]
set_option maxHeartbeats 16000000 in
theorem long7_any (v : Value) (ops : List Op7) (w : World) (hr : IsOps7 w v ops) (yes : Bool) (hy : yes = true ↔ isLong7 ops) :
    Calls Try.prog 10 #[v] w fun e w' => e = .returned (.bool yes) ∧ Below w.heap.size w w' := by
  have HV := Lib.hid hr
  obtain ⟨a, cap, rfl, h1, h2, _⟩ := hr
  have hm : (ops.length : Int) ≤ 9223372036854775807 := by unfold maxLen at h2; omega
  have HY := Lib.hid hy
  clear h1 h2 hy
  go_enter Try.func10, Try.ntmps10
  go_wp2_with fail
  go_loopw [7] (fun vk wr => ∃ k : Nat, vk = .int .i64 k ∧ k ≤ ops.length ∧ Below w.heap.size w wr ∧ ∀ o ∈ ops.take k, ¬ 500 < o.data.size ∧ ¬ 200 < o.picks.length) (fun vk _ => ops.length - (intOf vk).toNat)
  case atStart => exact ⟨0, rfl, Nat.zero_le _, Below.refl _ _, fun o ho => by simp at ho⟩
  case round =>
    obtain ⟨k, rfl, hk, hB, hall⟩ := hrel
    have HB := Lib.hid hB
    have HALL := Lib.hid hall
    clear hB hall
    by_cases hlt : k < ops.length
    · obtain ⟨b, off, cap', hva, _, _, hbw, hel⟩ := HV.out.at_ (by omega)
      cases hva
      obtain ⟨ka, kc, hrd, hwf, _, hc⟩ := hel k hlt
      have HIN : Hid (ops[k] ∈ ops) := List.getElem_mem hlt
      have HTK : Hid (ops.take (k + 1) = ops.take k ++ [ops[k]]) := by unfold Hid; rw [List.take_succ_eq_append_getElem hlt]
      have hp : (ops[k].picks.length : Int) ≤ 9223372036854775807 := by have := hwf.picks; unfold maxLen at this; omega
      have hd : (ops[k].data.size : Int) ≤ 9223372036854775807 := by have := hwf.data; unfold maxLen at this; omega
      obtain ⟨c0, c1, c2, c3, c4, c5⟩ := hc.keep HB.out
      clear hel hc hrd hwf
      generalize ops[k] = o at *
      have hn := Blk.new wr 39 op7Zero
      have N3 := hn.setRow (op7Cells o (.slice ka o.picks.length kc))
      have hb3 : Below wr.heap.size wr ((wr.alloc (.cells op7Zero 39)).setRow wr.heap.size (op7Cells o (.slice ka o.picks.length kc))) := below_setRow ((Below.refl _ _).alloc (Nat.le_refl _) _) (Nat.le_refl _) _
      have HB3 := Lib.hid (below2 HB.out hb3)
      go_upto_region 4 with (refine wpList_store_row rfl 39 _ _ rfl wr.heap.size _ rfl rfl 39 _ hn (by kernel_rfl) rfl (by simp [Value.oneCell']) ?_)
      clear hn hb3 c0 c1 c2 c3 c4 c5 HB hbw
      change Code.wp _ _ _ _ ((wr.alloc (.cells op7Zero 39)).setRow wr.heap.size (op7Cells o (.slice ka o.picks.length kc)))
      generalize (wr.alloc (.cells op7Zero 39)).setRow wr.heap.size (op7Cells o (.slice ka o.picks.length kc)) = w3 at *
      generalize wr.heap.size = x at *
      have d4 : w3.cell? ⟨x, 4, none⟩ = some (.string o.data) := N3.cell 4
      have d5 : w3.cell? ⟨x, 5, none⟩ = some (.slice ka o.picks.length kc) := N3.cell 5
      clear N3
      by_cases hf : 500 < o.data.size
      · have hf2 : (500 : Int) < o.data.size := by omega
        have hyes : yes = true := HY.out.2 (.inl ⟨o, HIN.out, .inl hf⟩)
        clear hf
        go_wp2
        go_ret
        exact ⟨by first | rfl | (rw [hyes]; rfl), HB3.out⟩
      · have hf2 : ¬ (500 : Int) < o.data.size := by omega
        by_cases hp2 : 200 < o.picks.length
        · have hp3 : (200 : Int) < o.picks.length := by omega
          have hyes : yes = true := HY.out.2 (.inl ⟨o, HIN.out, .inr hp2⟩)
          clear hf hp2
          go_wp2
          go_ret
          exact ⟨by first | rfl | (rw [hyes]; rfl), HB3.out⟩
        · have hp3 : ¬ (200 : Int) < o.picks.length := by omega
          have HALL2 : Hid (∀ q ∈ ops.take (k + 1), ¬ 500 < q.data.size ∧ ¬ 200 < q.picks.length) := fun q hq => by
            rw [HTK.out] at hq
            rcases List.mem_append.1 hq with hq | hq
            · exact HALL.out q hq
            · simp at hq; subst hq; exact ⟨hf, hp2⟩
          clear HALL hp2 hf
          go_wp2
          go_roundw
          case rel => exact ⟨k + 1, by go_num, by omega, HB3.out, HALL2.out⟩
          case measure => simp [intOf]; omega
    · obtain rfl : k = ops.length := by omega
      have hyes : yes = decide ((200 : Int) < ops.length) := by
        have hall := HALL.out
        rw [List.take_length] at hall
        have h2 : isLong7 ops ↔ (200 : Int) < ops.length := by
          unfold isLong7
          constructor
          · rintro (⟨o, ho, h⟩ | h)
            · have := hall o ho
              rcases h with h | h
              · exact absurd h this.1
              · exact absurd h this.2
            · omega
          · intro h; exact .inr (by omega)
        by_cases h : (200 : Int) < ops.length
        · rw [decide_eq_true h]; exact HY.out.2 (h2.2 h)
        · rw [decide_eq_false h]
          cases hyy : yes with
          | true => exact absurd (h2.1 (HY.out.1 hyy)) h
          | false => rfl
      go_wp2
      go_ret
      exact ⟨by rw [hyes]; rfl, HB.out⟩
end Go.Proofs.Ytpjkejgnnceanaa

/- careenlaw07.StoreOpens, walked. -/
namespace Go.Proofs.Ytpjkejgnnceanaa
open Go.RowKit

/-- A page isn't unlike itself. -/
theorem wp_page_unlike {ops : Array Oper} {rest : List Oper} {o : Oper} {a : Act} {w : World} {Q : Exit → Act → World → Prop} (x y : Operand) (ty : TypeId) (ho : o.op = .binOp .neq 34 x y ty)
    (hw : Region.wanted o (yielded ops a.tmps) = true) (A : Int) (D : ByteArray) (hx : a.eval x = .agg #[.int .i64 A, .string D]) (hy : a.eval y = .agg #[.int .i64 A, .string D])
    (h : wpList Try.prog ops Q rest (a.put o.dst (.bool false)) w) : wpList Try.prog ops Q (o :: rest) a w :=
  wp_page_neq x y ty ho hw A A D D hx hy (by simpa using h)
/-- The last write's ticket lies in the journal. -/
def Last7 (σ : Sg) (t : Nat) : Prop := t = 1 ∨ ∃ b, σ 0 = some (t - 1, b)
theorem Last7.next {σ : Sg} {n t : Nat} (h : Last7 σ t) : t ≤ nextOf σ n := by
  rcases h with rfl | ⟨b, hb⟩
  · exact nextTo_one σ _
  · have := nextTo_gt σ (3 + 2 * n) 0 (by omega) _ b hb
    have e : nextOf σ n = nextTo σ (3 + 2 * n) := rfl
    omega
/-- The store that a call has beside another one over the same disk. -/
theorem Live7.beside {w0 w w' : World} {F F' : Foot} {s s2 gd base n t t2 : Nat} {D D' : Dk} {P P2 : Nat → Pag} {σ σ' : Sg} (h : Live7 w0 w F s gd D base n t P σ) (h2 : Live7 w0 w' F' s2 gd D' base n t2 P2 σ') (st : Step F F' w w') (hc : Calm7 D' base n t P σ') : Live7 w0 w' F' s gd D' base n t P σ' :=
  ⟨h.sto.onDisk h2.sto.disk st, hc, h2.newF, h.newS, h2.below, h.pos, h.n1⟩
theorem Live7.lost {w0 w : World} {F : Foot} {s gd base n t : Nat} {D : Dk} {P : Nat → Pag} {σ : Sg} (h : Live7 w0 w F s gd D base n t P σ) (ht : t ≤ 4294967296) : Lost7 w0 w F gd D base n t P σ := ⟨h.sto.disk, h.calm.torn, h.newF, h.below, ht, h.pos, h.n1, h.sto.n8⟩
section
set_option maxRecDepth 100000
variable (v : Value) (ops : List Op7) (n : Int) (w : World) (hv : IsOps7 w v ops)
include hv
set_option maxHeartbeats 16000000 in
theorem storeOpens_early (h : isLong7 ops) :
    Calls Try.prog 6 #[.int .i64 n, v] w fun e w' => e = .returned (.bool true) ∧ Below w.heap.size w w' := by
  have hN : Hid (wrap64 ((IntKind.u64.wrap n).tmod 8) = (modN n 8 : Int)) := modN_eq n 8 (by omega) (by omega)
  have hNl : modN n 8 < 8 := by have := modN_lt n 8 (by omega); omega
  have HV := Lib.hid hv
  clear hv
  generalize modN n 8 = M at *
  have hM1 : wrap64 ((1 : Int) + (M : Int)) = ((M + 1 : Nat) : Int) := by unfold wrap64; omega
  have hM2 : (M : Int) < 8 := by omega
  have HM := Lib.hid hM1
  have h1N : 1 ≤ M + 1 := by omega
  have h8N : M + 1 ≤ 8 := by omega
  clear hM1
  go_enter Try.func6, Try.ntmps6
  go_wp2_with fail
  rw [hN.out]
  go_wp2_with fail
  rw [HM.out]
  clear hM2 hN HM hNl
  generalize M + 1 = N at *
  refine (soSectors_any N h8N _).mono ?_
  rintro e w1 ⟨rfl, rfl⟩
  go_wp2_with fail
  refine (new_ok (3 + 2 * N) _ (by omega) (by omega)).mono ?_
  rintro e w1 ⟨gd, FD, rfl, hd, hFD, hb1⟩
  rw [show 3 + 2 * N = 0 + (3 + 2 * N) by omega] at hd
  have HD := Lib.hid hd
  have HFD := Lib.hid hFD
  have HB1 := Lib.hid hb1
  clear hd hFD hb1
  go_wp2_with fail
  refine (Live7.make (w0 := w) (base := 0) (n := N) HD.out HFD.out HB1.out h1N h8N).mono ?_
  rintro e w2 ⟨s, rfl, hl, -⟩
  have L2 := Lib.hid hl
  clear hl HD HFD HB1
  go_wp2_with fail
  refine (awake7 _).mono ?_
  rintro e w3 ⟨rfl, hb3⟩
  have L3 := Lib.hid (L2.out.more hb3)
  clear hb3 L2
  go_wp2_with fail
  refine (long7_any v ops _ (HV.out.keep L3.out.below) true (by simp [h])).mono ?_
  rintro e w4 ⟨rfl, hb4⟩
  have L4 := Lib.hid (L3.out.more hb4)
  clear hb4 L3
  go_wp2_with fail
  refine (awake7 _).mono ?_
  rintro e w6 ⟨rfl, hb6⟩
  have L6 := Lib.hid (L4.out.more hb6)
  clear hb6 L4
  go_wp2
  go_ret
  exact ⟨rfl, L6.out.below⟩
set_option maxHeartbeats 16000000 in
theorem storeOpens_go (h : ¬ isLong7 ops) :
    Calls Try.prog 6 #[.int .i64 n, v] w fun e w' => e = .returned (.bool true) ∧ Below w.heap.size w w' := by
  have h200 : ops.length ≤ 200 := Classical.byContradiction fun hn => h (.inr (by omega))
  have hops : (ops.length : Int) ≤ 200 := by omega
  have hN : Hid (wrap64 ((IntKind.u64.wrap n).tmod 8) = (modN n 8 : Int)) := modN_eq n 8 (by omega) (by omega)
  have hNl : modN n 8 < 8 := by have := modN_lt n 8 (by omega); omega
  have HV := Lib.hid hv
  clear hv
  generalize modN n 8 = M at *
  have hM1 : wrap64 ((1 : Int) + (M : Int)) = ((M + 1 : Nat) : Int) := by unfold wrap64; omega
  have hM2 : (M : Int) < 8 := by omega
  have HM := Lib.hid hM1
  have h1N : 1 ≤ M + 1 := by omega
  have h8N : M + 1 ≤ 8 := by omega
  clear hM1
  go_enter Try.func6, Try.ntmps6
  go_wp2_with fail
  rw [hN.out]
  go_wp2_with fail
  rw [HM.out]
  clear hM2 hN HM hNl
  generalize M + 1 = N at *
  refine (soSectors_any N h8N _).mono ?_
  rintro e w1 ⟨rfl, rfl⟩
  go_wp2_with fail
  refine (new_ok (3 + 2 * N) _ (by omega) (by omega)).mono ?_
  rintro e w1 ⟨gd, FD, rfl, hd, hFD, hb1⟩
  rw [show 3 + 2 * N = 0 + (3 + 2 * N) by omega] at hd
  have HD := Lib.hid hd
  have HFD := Lib.hid hFD
  have HB1 := Lib.hid hb1
  clear hd hFD hb1
  go_wp2_with fail
  refine (Live7.make (w0 := w) (base := 0) (n := N) HD.out HFD.out HB1.out h1N h8N).mono ?_
  rintro e w2 ⟨s, rfl, hl, -⟩
  have L2 := Lib.hid hl
  clear hl HD HFD HB1
  go_wp2_with fail
  refine (awake7 _).mono ?_
  rintro e w3 ⟨rfl, hb3⟩
  have L3 := Lib.hid (L2.out.more hb3)
  clear hb3 L2
  have LG := Lib.hid (long7_any v ops _ (HV.out.keep L3.out.below) false (by simp [h]))
  go_wp2_with fail
  refine LG.out.mono ?_
  rintro e w4 ⟨rfl, hb4⟩
  have L4 := Lib.hid (L3.out.more hb4)
  clear hb4 L3 LG
  have HV2 := Lib.hid HV.out
  obtain ⟨a0, cap, rfl, -⟩ := HV.out
  have hN1 : (1 : Int) ≤ (N : Int) := by omega
  have hN8 : (N : Int) ≤ 8 := by omega
  go_wp2_with fail
  go_loopw [52] (fun vk wr => ∃ (k : Nat) (F : Foot) (D : Dk) (t : Nat) (P : Nat → Pag) (σ : Sg), vk = .int .i64 k ∧ k ≤ ops.length ∧ Live7 w wr F s gd D 0 N t P σ ∧ D.fuse = none ∧ t ≤ k + 1 ∧ Last7 σ t) (fun vk _ => ops.length - (intOf vk).toNat)
  case atStart => exact ⟨0, FD, _, 1, _, _, rfl, Nat.zero_le _, L4.out, rfl, Nat.le_refl _, .inl rfl⟩
  case round =>
    obtain ⟨k, F, D, t, P, σ, rfl, hk, hl, hf, ht, hla⟩ := hrel
    have L6 := Lib.hid hl
    have HF := Lib.hid hf
    have HT := Lib.hid ht
    have HLA := Lib.hid hla
    clear hl hf ht L4 hla
    by_cases hlt : k < ops.length
    · obtain ⟨b, off, cap', hva, _, _, hbw, hel⟩ := HV2.out.at_ (by omega)
      cases hva
      obtain ⟨ka, kc, -, -, -, hc⟩ := hel k hlt
      obtain ⟨c0, c1, c2, c3, c4, c5⟩ := hc.keep L6.out.below
      have hM : Hid (wrap64 ((IntKind.u64.wrap ops[k].i).tmod N) = (modN ops[k].i N : Int)) := modN_eq _ N (by omega) (by omega)
      have hMl : Hid (modN ops[k].i N < N) := show modN ops[k].i N < N by have := modN_lt ops[k].i N (by omega); omega
      clear hel hc
      generalize ops[k] = o at *
      generalize modN o.i N = M at *
      have hn := Blk.new wr 39 op7Zero
      have N3 := hn.setRow (op7Cells o (.slice ka o.picks.length kc))
      have hb3 : Below wr.heap.size wr ((wr.alloc (.cells op7Zero 39)).setRow wr.heap.size (op7Cells o (.slice ka o.picks.length kc))) := below_setRow ((Below.refl _ _).alloc (Nat.le_refl _) _) (Nat.le_refl _) _
      have L7 := Lib.hid (L6.out.more hb3)
      go_upto_region 9 with (refine wpList_store_row rfl 39 _ _ rfl wr.heap.size _ rfl rfl 39 _ hn (by kernel_rfl) rfl (by simp [Value.oneCell']) ?_)
      clear hn hb3 c0 c1 c2 c3 c4 c5 L6 hbw
      change Code.wp _ _ _ _ ((wr.alloc (.cells op7Zero 39)).setRow wr.heap.size (op7Cells o (.slice ka o.picks.length kc)))
      generalize (wr.alloc (.cells op7Zero 39)).setRow wr.heap.size (op7Cells o (.slice ka o.picks.length kc)) = w7 at *
      generalize wr.heap.size = x at *
      have C : Hid (∀ W, Below w7.heap.size w7 W → W.cell? ⟨x, 1, none⟩ = some (.int .i64 o.i) ∧ W.cell? ⟨x, 3, none⟩ = some (.int .i64 o.at_) ∧ W.cell? ⟨x, 4, none⟩ = some (.string o.data)) := fun W hW => ⟨(N3.keep hW N3.lt).cell 1, (N3.keep hW N3.lt).cell 3, (N3.keep hW N3.lt).cell 4⟩
      clear N3
      have WR : Hid (∀ W, Below w7.heap.size w7 W → Calls Try.prog 13 #[.pointer (some ⟨s, 0, none⟩), .int .i64 M, .agg #[.int .i64 o.at_, .string o.data]] W fun e w' => ∃ r F' D' t' P' σ', e = .returned (.int .i64 r) ∧ Live7 w w' F' s gd D' 0 N t' P' σ' ∧ D'.fuse = none ∧ t' ≤ k + 1 + 1 ∧ Last7 σ' t') := fun W hW => by
        have L := L7.out.more hW
        by_cases hp : PgOk o.at_ o.data
        · exact (L.write (by have := HT.out; omega) hMl.out (p := (o.at_, o.data)) hp (fun m hm => by rw [HF.out] at hm; cases hm)).mono fun _ _ ⟨he, F', D', σ', hl, _, hf, hb⟩ => ⟨0, F', D', _, _, σ', he, hl, by rw [hf, HF.out]; rfl, by have := HT.out; omega, .inr hb⟩
        · exact (L.form hMl.out hp).mono fun _ _ ⟨he, F', hl, _⟩ => ⟨3, F', D, _, _, σ, he, hl, HF.out, by have := HT.out; omega, HLA.out⟩
      have hwN : IntKind.u64.wrap (N : Int) = (N : Int) := by rw [IntKind.wrap_u64]; omega
      have hN0 : ¬ (N : Int) = 0 := by omega
      clear L7 HF HT hMl HLA
      refine' wp_region_conf 10 (.is _ :: .is _ :: .is _ :: .is _ :: .is _ :: .is _ :: .is _ :: .is (.int .i64 M) :: .is _ :: .is _ :: []) (by kernel_rfl) (by kernel_rfl) (by kernel_rfl) (by kernel_rfl) rfl ?main
      case main =>
        iterate 10
          refine obs_is (fun w9 hE9 _ => ?_) ?_
          · obtain ⟨d1, d3, d4⟩ := C.out w9 ((Below.refl _ _).drew.trans hE9)
            go_wp2
            first | exact post_is (Below.refl _ _) | (rw [hM.out]; exact post_is (Below.refl _ _))
          simp only [Act.put, List.setIfInBounds_toArray, List.set_cons_zero, List.set_cons_succ]
        refine obs_end fun w9 hE9 _ => ?_
        have HB9 := Lib.hid ((Below.refl w7.heap.size w7).drew.trans hE9)
        clear hE9 C
        change wpList _ _ _ _ _ _
        go_wp2_with fail
        refine (WR.out _ HB9.out).mono ?_
        rintro e w8 ⟨r, F', D', t', P', σ', rfl, hl, hf, ht, hla⟩
        have L8 := Lib.hid hl
        have HF8 := Lib.hid hf
        have HT8 := Lib.hid ht
        have HLA8 := Lib.hid hla
        clear hl hf ht WR hla
        go_wp2_with fail
        go_roundw
        case rel => exact ⟨k + 1, F', D', t', P', σ', by go_num, by omega, L8.out, HF8.out, HT8.out, HLA8.out⟩
        case measure => simp [intOf]; omega
    · obtain rfl : k = ops.length := by omega
      have hT9 : t ≤ 4294967296 := by have := HT.out; omega
      clear HV HV2 HT hk
      go_wp2_with fail
      refine ((L6.out.lost hT9).open_ (fun m hm => by rw [HF.out] at hm; cases hm)).mono ?_
      rintro e w8 ⟨s2, F', D', σ', rfl, hl8, hc8, -, st8, -, hk8⟩
      have hla8 : Last7 σ' t := HLA.out.imp id fun ⟨b, hb⟩ => ⟨b, (hk8 0 (by omega)).trans hb⟩
      have hnx : ¬ ((nextOf σ' N : Nat) : Int) < (t : Int) := by have := hla8.next (n := N); omega
      have hT2 : nextOf σ' N ≤ 4294967296 := by have := nextOf_le hc8.tidy L6.out.pos; omega
      have S8 := Lib.hid (L6.out.beside hl8 st8 hc8)
      have L8 := Lib.hid hl8
      clear hl8 hc8 st8 hk8 hla8 L6 HF HLA
      generalize nextOf σ' N = t2 at *
      go_wp2_with fail
      refine L8.out.ticket.mono ?_
      rintro e w9 ⟨rfl, rfl⟩
      go_wp2_with fail
      refine S8.out.ticket.mono ?_
      rintro e w9 ⟨rfl, rfl⟩
      go_wp2_with fail
      go_loopw [89] (fun vk wr => ∃ k : Nat, vk = .int .i64 k ∧ k ≤ N ∧ Live7 w wr F' s gd D' 0 N t P σ' ∧ Live7 w wr F' s2 gd D' 0 N t2 P σ') (fun vk _ => N - (intOf vk).toNat)
      case atStart => exact ⟨0, rfl, Nat.zero_le _, S8.out, L8.out⟩
      case round =>
        obtain ⟨k, rfl, hk, hl1, hl2⟩ := hrel
        have S9 := Lib.hid hl1
        have L9 := Lib.hid hl2
        clear hl1 hl2 S8 L8
        by_cases hlt : k < N
        · have R1 := Lib.hid (S9.out.read hT9 hlt)
          go_wp2_with fail
          refine R1.out.mono ?_
          rintro e w10 ⟨rfl, hb10⟩
          have bq := hb10.alloc hb10.size (.cells #[.int .i64 (P k).1, .string (P k).2] 34)
          have S11 := Lib.hid (S9.out.more bq)
          have L11 := Lib.hid (L9.out.more bq)
          have Y11 := Blk.new w10 34 #[.int .i64 (P k).1, .string (P k).2]
          clear hb10 bq S9 L9 R1
          go_upto_region 18 with fail
          change Code.wp _ _ _ _ (w10.alloc (.cells #[.int .i64 (P k).1, .string (P k).2] 34))
          generalize w10.alloc (.cells #[.int .i64 (P k).1, .string (P k).2] 34) = w11 at *
          generalize w10.heap.size = y at *
          have R2 := Lib.hid (L11.out.read hT2 hlt)
          go_wp2_with fail
          refine R2.out.mono ?_
          rintro e w12 ⟨rfl, hb12⟩
          have bq := hb12.alloc hb12.size (.cells #[.int .i64 (P k).1, .string (P k).2] 34)
          have S13 := Lib.hid (S11.out.more bq)
          have L13 := Lib.hid (L11.out.more bq)
          have Y13 := (Y11.keep hb12 Y11.lt).alloc (.cells #[.int .i64 (P k).1, .string (P k).2] 34)
          have Z13 := Blk.new w12 34 #[.int .i64 (P k).1, .string (P k).2]
          clear hb12 bq S11 L11 R2 Y11
          go_upto_region 19 with fail
          change Code.wp _ _ _ _ (w12.alloc (.cells #[.int .i64 (P k).1, .string (P k).2] 34))
          generalize w12.alloc (.cells #[.int .i64 (P k).1, .string (P k).2] 34) = w13 at *
          generalize w12.heap.size = z at *
          have y0 : w13.cell? ⟨y, 0, none⟩ = some (.int .i64 (P k).1) := Y13.cell 0
          have y1 : w13.cell? ⟨y, 1, none⟩ = some (.string (P k).2) := Y13.cell 1
          have z0 : w13.cell? ⟨z, 0, none⟩ = some (.int .i64 (P k).1) := Z13.cell 0
          have z1 : w13.cell? ⟨z, 1, none⟩ = some (.string (P k).2) := Z13.cell 1
          clear Y13 Z13
          go_wp2_with (refine wp_page_unlike _ _ _ rfl rfl (P k).1 (P k).2 rfl rfl ?_)
          go_roundw
          case rel => exact ⟨k + 1, by go_num, by omega, S13.out, L13.out⟩
          case measure => simp [intOf]; omega
        · obtain rfl : k = N := by omega
          go_wp2
          go_ret
          exact ⟨rfl, S9.out.below⟩
end
theorem walkStoreOpens (n : Int) (v : Value) (ops : List Op7) (w : World) (_ : (Lit.int .i64 n).wf = true) (hv : IsOps7 w v ops) :
    Calls Try.prog 6 #[.int .i64 n, v] w fun e w' => e = .returned (.bool true) ∧ Below w.heap.size w w' := by
  by_cases h : isLong7 ops
  · exact storeOpens_early v ops n w hv h
  · exact storeOpens_go v ops n w hv h
end Go.Proofs.Ytpjkejgnnceanaa

/- careenlaw07.StoreWhole: its rounds' states; a write, and an opening, amid which the power may go. -/
namespace Go.Proofs.Ytpjkejgnnceanaa
open Go.RowKit

def wantV (P : Nat → Pag) : Array Value := #[.int .i64 (P 0).1, .string (P 0).2, .int .i64 (P 1).1, .string (P 1).2, .int .i64 (P 2).1, .string (P 2).2, .int .i64 (P 3).1, .string (P 3).2, .int .i64 (P 4).1, .string (P 4).2, .int .i64 (P 5).1, .string (P 5).2, .int .i64 (P 6).1, .string (P 6).2, .int .i64 (P 7).1, .string (P 7).2]
theorem wantV_at (P : Nat → Pag) {i : Nat} (hi : i < 8) : (wantV P)[i * 2]? = some (.int .i64 (P i).1) ∧ (wantV P)[i * 2 + 1]? = some (.string (P i).2) := by
  rcases (show i = 0 ∨ i = 1 ∨ i = 2 ∨ i = 3 ∨ i = 4 ∨ i = 5 ∨ i = 6 ∨ i = 7 by omega) with rfl | rfl | rfl | rfl | rfl | rfl | rfl | rfl <;> exact ⟨rfl, rfl⟩
theorem wantV_set (P : Nat → Pag) {i : Nat} (hi : i < 8) (p : Pag) : ((wantV P).setIfInBounds (i * 2) (.int .i64 p.1)).setIfInBounds (i * 2 + 1) (.string p.2) = wantV (putP P i p) := by
  rcases (show i = 0 ∨ i = 1 ∨ i = 2 ∨ i = 3 ∨ i = 4 ∨ i = 5 ∨ i = 6 ∨ i = 7 by omega) with rfl | rfl | rfl | rfl | rfl | rfl | rfl | rfl <;> rfl
theorem wantV_congr {P P' : Nat → Pag} (h : ∀ i, i < 8 → P i = P' i) : wantV P = wantV P' := by
  unfold wantV
  rw [h 0 (by omega), h 1 (by omega), h 2 (by omega), h 3 (by omega), h 4 (by omega), h 5 (by omega), h 6 (by omega), h 7 (by omega)]
theorem Step.far {F F' : Foot} {w w' : World} (h : Step F F' w w') {b : Nat} (hb : b < w.heap.size) (hn : ¬ F b) : ¬ F' b := fun hF => by
  rcases h.foot b hF with h1 | h1
  · exact hn h1
  · omega
theorem Step.blk {F F' : Foot} {w w' : World} (h : Step F F' w w') {b : Nat} {t : TypeId} {cs : Array Value} (hb : Blk w b t cs) (hn : ¬ F b) : Blk w' b t cs := (h.block b hb.lt hn).trans hb
/-- Pages that are unlike. -/
theorem wp_page_other {ops : Array Oper} {rest : List Oper} {o : Oper} {a : Act} {w : World} {Q : Exit → Act → World → Prop} (x y : Operand) (ty : TypeId) (ho : o.op = .binOp .neq 34 x y ty)
    (hw : Region.wanted o (yielded ops a.tmps) = true) (A A' : Int) (D D' : ByteArray) (hn : ¬ (A = A' ∧ D = D')) (hx : a.eval x = .agg #[.int .i64 A, .string D]) (hy : a.eval y = .agg #[.int .i64 A', .string D'])
    (h : wpList Try.prog ops Q rest (a.put o.dst (.bool true)) w) : wpList Try.prog ops Q (o :: rest) a w := by
  refine wp_page_neq x y ty ho hw A A' D D' hx hy ?_
  have e : (A == A' && D.toList == D'.toList) = false := by
    rw [Bool.and_eq_false_iff, beq_eq_false_iff_ne, beq_eq_false_iff_ne]
    by_cases h1 : A = A'
    · refine .inr fun e => hn ⟨h1, ?_⟩
      rw [ByteArray.toList_eq, ByteArray.toList_eq] at e
      exact str_ext e
    · exact .inl h1
  rw [e]
  exact h
theorem putP_kept {P P' : Nat → Pag} {i : Nat} {p : Pag} (h : P' = P ∨ P' = putP P i p) : putP P i (P' i) = P' := by
  rcases h with rfl | rfl
  · funext k; unfold putP; split
    · rename_i e; rw [e]
    · rfl
  · rw [putP_same]
/-- A page is put into what is wanted. -/
def putW (w : World) (wb i : Nat) (p : Pag) : World := (w.setCell ⟨wb, i * 2, none⟩ (.int .i64 p.1)).setCell ⟨wb, i * 2 + 1, none⟩ (.string p.2)
theorem putW_spare (w : World) (wb i : Nat) (p : Pag) : Spare (· = wb) w (putW w wb i p) := (Spare.setCell (S := (· = wb)) (p := ⟨wb, i * 2, none⟩) rfl _).trans (Spare.setCell (S := (· = wb)) (p := ⟨wb, i * 2 + 1, none⟩) rfl _)
theorem putW_blk {w : World} {wb i t : Nat} {P : Nat → Pag} (h : Blk w wb t (wantV P)) (hi : i < 8) (p : Pag) : Blk (putW w wb i p) wb t (wantV (putP P i p)) := by
  rw [← wantV_set P hi p]
  exact (h.set _ _).set _ _
theorem Live7.aside {w0 w w' : World} {F : Foot} {s gd base n t : Nat} {D : Dk} {P : Nat → Pag} {σ : Sg} (h : Live7 w0 w F s gd D base n t P σ) {b : Nat} (hs : Spare (· = b) w w') (hb : ¬ OfS F s b) (h0 : w0.heap.size ≤ b) : Live7 w0 w' F s gd D base n t P σ := by
  have hk : ∀ x, OfS F s x → x < w.heap.size → w'.heap[x]? = w.heap[x]? := fun x hx hl => hs.block x hl fun e => hb (e ▸ hx)
  refine ⟨⟨h.sto.disk.keep (fun x hx => hk x (.inl hx) (h.sto.disk.lt x hx)) hs.size, (hk s (.inr rfl) h.sto.head.lt).trans h.sto.head, h.sto.apart, h.sto.b5, h.sto.n8⟩, h.calm, h.newF, h.newS, hs.below h.below (fun x e => e ▸ h0) h.below.size, h.pos, h.n1⟩
theorem Lost7.keep {w0 w w' : World} {F : Foot} {gd base n T : Nat} {D : Dk} {P : Nat → Pag} {σ : Sg} (h : Lost7 w0 w F gd D base n T P σ) (hb : Below w.heap.size w w') : Lost7 w0 w' F gd D base n T P σ := ⟨h.disk.below hb, h.torn, h.newF, h.below.trans (hb.mono h.below.size), h.few, h.pos, h.n1, h.n8⟩
theorem arm_fuse (D : Dk) (m : Nat) : (D.arm (m : Int)).fuse = some m := by
  unfold Dk.arm
  simp
/-- What is left when the power went, or didn't, and a crash comes. -/
def Behind (D' : Dk) (base n T : Nat) (P : Nat → Pag) (q : List UInt8) : Prop := ∃ σ', Torn7 (D'.crash q) base n T P σ' ∧ (D'.crash q).fuse = none
theorem Calm7.behind {D : Dk} {base n t : Nat} {P : Nat → Pag} {σ : Sg} (h : Calm7 D base n t P σ) (q : List UInt8) : Behind D base n t P q := by
  obtain ⟨k1, k2, _⟩ := h.lies.crash q
  exact ⟨σ, ⟨k1, h.all.good, h.tidy⟩, k2⟩
section
variable {w0 w w' : World} {F F' : Foot} {s gd base n t T : Nat} {D : Dk} {P : Nat → Pag} {σ : Sg}
theorem Lost7.armed (h : Lost7 w0 w F gd D base n T P σ) (k : Int) (hk : k < 9223372036854775808) :
    Calls Try.prog 14 #[.pointer (some ⟨gd, 0, none⟩), .int .i64 k] w fun e w' => e = .returned (.tuple #[]) ∧ Lost7 w0 w' F gd (D.arm k) base n T P σ ∧ Step F F w w' :=
  (arm_any h.disk k hk).mono fun _ _ ⟨he, hd, st⟩ => ⟨he, ⟨hd, ⟨h.torn.lies.arm k hk, h.torn.good, h.torn.tidy⟩, h.newF, st.belowB h.newF h.below h.below.size, h.few, h.pos, h.n1, h.n8⟩, st⟩
/-- A write with any fuse, ahead of a crash. -/
theorem Live7.tried (h : Live7 w0 w F s gd D base n t P σ) (ht : t < 4294967296) {i m : Nat} {p : Pag} (hi : i < n) (hp : p.Right) (hm : D.fuse = some m) (q : List UInt8) :
    Calls Try.prog 13 #[.pointer (some ⟨s, 0, none⟩), .int .i64 i, .agg #[.int .i64 p.1, .string p.2]] w fun e w' => ∃ r F' D', e = .returned (.int .i64 r) ∧ IsDisk w' F' gd D' ∧ Step (OfS F s) (OfS F' s) w w' ∧ ∃ P', (P' = P ∨ P' = putP P i p) ∧ Behind D' base n (t + 1) P' q := by
  by_cases h8 : 8 ≤ m
  · exact (h.write ht hi hp (fun m' hm' => by rw [hm] at hm'; cases hm'; exact h8)).mono fun _ _ ⟨he, F', D', σ', hl, st, _, _⟩ => ⟨0, F', D', he, hl.sto.disk, st, _, .inr rfl, hl.calm.behind q⟩
  · obtain ⟨D', σ', k1, _, _, _, k5, _, k7⟩ := h.calm.cut h.sto.n8 hi hp m hm (by omega) q
    refine (h.cut ht hi hp k1).mono fun _ _ ⟨he, F', hs, st⟩ => ⟨4, F', D', he, hs.disk, st, ?_⟩
    rcases k7 with k7 | k7
    · exact ⟨_, .inl rfl, σ', k7, k5⟩
    · exact ⟨_, .inr rfl, σ', k7, k5⟩
/-- An opening with any fuse, ahead of a crash. -/
theorem Lost7.tried (h : Lost7 w0 w F gd D base n T P σ) {m : Nat} (hm : D.fuse = some m) (q : List UInt8) :
    Calls Try.prog 16 #[.pointer (some ⟨gd, 0, none⟩), .int .i64 base, .int .i64 n] w fun e w' => ∃ v F' D', e = .returned v ∧ IsDisk w' F' gd D' ∧ Step F F' w w' ∧ Behind D' base n T P q := by
  by_cases h3 : 3 ≤ m
  · exact (h.open_ (fun m' hm' => by rw [hm] at hm'; cases hm'; exact h3)).mono fun _ _ ⟨s, F', D', σ', he, hl, hc, _, st, _, _⟩ => ⟨_, F', D', he, hl.sto.disk, st, hc.behind q⟩
  · by_cases hj : ∀ j e a b, ¬ Jour σ n j e a b
    · have hc := h.torn.open0 hj
      refine (soOpen_ok h.disk h.torn.lies h.torn.tidy h.few h.n1 h.n8 (by rw [h.torn.lies.waits]; simp) (.inl ⟨hj, rfl⟩) (D' := D) (σ' := σ) rfl hc.lies hc.tidy).mono fun _ _ ⟨s, F', e1, hs, _, st⟩ => ⟨_, F', D, e1, hs.disk, st, hc.behind q⟩
    · have : ∃ j e a b, Jour σ n j e a b := Classical.byContradiction fun hno => hj fun j e a b J => hno ⟨j, e, a, b, J⟩
      obtain ⟨j, e, a, b, J⟩ := this
      obtain ⟨D', σ', k1, _, _, _, k5, _, k7⟩ := h.torn.cut h.n8 J m hm (by omega) q
      exact (h.open_cut (.inr ⟨j, e, a, b, J, rfl⟩) k1).mono fun _ _ ⟨he, F', hs, st⟩ => ⟨_, F', D', he, hs, st, σ', k7, k5⟩
end
/-- Behind a crash: a disk to be opened; what is wanted, the operation, and what was, beside it. -/
structure Beside (F : Foot) (wr : World) (wb x y : Nat) (P : Nat → Pag) (oc yc : Array Value) : Prop where
  nb : ¬ F wb
  nx : ¬ F x
  ny : ¬ F y
  want : Blk wr wb 35 (wantV P)
  op : Blk wr x 39 oc
  was : Blk wr y 34 yc
theorem Beside.step {F F' : Foot} {wr w' : World} {wb x y : Nat} {P : Nat → Pag} {oc yc : Array Value} (h : Beside F wr wb x y P oc yc) (st : Step F F' wr w') : Beside F' w' wb x y P oc yc :=
  ⟨st.far h.want.lt h.nb, st.far h.op.lt h.nx, st.far h.was.lt h.ny, st.blk h.want h.nb, st.blk h.op h.nx, st.blk h.was h.ny⟩
theorem Beside.more {F : Foot} {wr w' : World} {wb x y : Nat} {P : Nat → Pag} {oc yc : Array Value} (h : Beside F wr wb x y P oc yc) (hb : Below wr.heap.size wr w') : Beside F w' wb x y P oc yc :=
  ⟨h.nb, h.nx, h.ny, h.want.keep hb h.want.lt, h.op.keep hb h.op.lt, h.was.keep hb h.was.lt⟩
structure LostAt (w wr : World) (wb x y gd N T : Nat) (P P' : Nat → Pag) (oc yc : Array Value) : Prop where
  ex : ∃ F D σ, Lost7 w wr F gd D 1 N T P' σ ∧ D.fuse = none ∧ Beside F wr wb x y P oc yc
/-- Between rounds. -/
structure WholeAt (w wr : World) (wb gd N k s : Nat) : Prop where
  ex : ∃ F D t P σ, Live7 w wr F s gd D 1 N t P σ ∧ D.fuse = none ∧ t ≤ k + 1 ∧ ¬ OfS F s wb ∧ Blk wr wb 35 (wantV P)
section
variable {w w' : World} {wb x y gd N T : Nat} {P P' : Nat → Pag} {oc yc : Array Value}
theorem LostAt.more {wr : World} (h : LostAt w wr wb x y gd N T P P' oc yc) (hb : Below wr.heap.size wr w') : LostAt w w' wb x y gd N T P P' oc yc := by
  obtain ⟨F, D, σ, h1, h2, h3⟩ := h.ex
  exact ⟨F, D, σ, h1.keep hb, h2, h3.more hb⟩
/-- The crash behind what was tried. -/
theorem crash_behind {F' : Foot} {D' : Dk} {v : Value} {q : List UInt8} (hd : IsDisk w' F' gd D') (hb : Behind D' 1 N T P' q) (hw : Beside F' w' wb x y P oc yc) (hF : ∀ b, F' b → w.heap.size ≤ b) (hB : Below w.heap.size w w') (hT : T ≤ 4294967296) (h1 : 1 ≤ T) (n1 : 1 ≤ N) (n8 : N ≤ 8)
    (hr : Reads w v (byteVs q)) (hv : q ≠ [] → ∀ b, v.ownBlock = some b → b < w.heap.size) :
    Calls Try.prog 15 #[.pointer (some ⟨gd, 0, none⟩), v] w' fun e w'' => e = .returned (.tuple #[]) ∧ LostAt w w'' wb x y gd N T P P' oc yc := by
  obtain ⟨σ', ht, hf⟩ := hb
  exact (crash_any hd v q (hr.keep hB) (fun hq b hvb hFb => by have := hv hq b hvb; have := hF b hFb; omega)).mono fun _ _ ⟨he, hd', st⟩ =>
    ⟨he, ⟨F', _, σ', ⟨hd', ht, hF, st.belowB hF hB hB.size, hT, h1, n1, n8⟩, hf, hw.step st⟩⟩
end
end Go.Proofs.Ytpjkejgnnceanaa

/- careenlaw07.StoreWhole, walked. -/
namespace Go.Proofs.Ytpjkejgnnceanaa
open Go.RowKit

section
set_option maxRecDepth 100000
variable (v v2 : Value) (ops again : List Op7) (n : Int) (w : World) (hv : IsOps7 w v ops) (hv2 : IsOps7 w v2 again)
include hv hv2
set_option maxHeartbeats 32000000 in
theorem storeWhole_early (h : isLong7 ops ∨ 20 < again.length ∨ isLong7 again) :
    Calls Try.prog 3 #[.int .i64 n, v, v2] w fun e w' => e = .returned (.bool true) ∧ Below w.heap.size w w' := by
  have hN : Hid (wrap64 ((IntKind.u64.wrap n).tmod 8) = (modN n 8 : Int)) := modN_eq n 8 (by omega) (by omega)
  have hNl : modN n 8 < 8 := by have := modN_lt n 8 (by omega); omega
  have HV := Lib.hid hv
  have HV2 := Lib.hid hv2
  have HH := Lib.hid h
  clear hv h hv2
  generalize modN n 8 = M at *
  have hM1 : wrap64 ((1 : Int) + (M : Int)) = ((M + 1 : Nat) : Int) := by unfold wrap64; omega
  have HM := Lib.hid hM1
  have h1N : 1 ≤ M + 1 := by omega
  have h8N : M + 1 ≤ 8 := by omega
  clear hM1
  obtain ⟨a2, cap2, rfl, q1, q2, -⟩ := id HV2.out
  have h2m : (again.length : Int) ≤ 9223372036854775807 := by unfold maxLen at q2; omega
  clear q1 q2
  go_enter Try.func3, Try.ntmps3
  go_wp2_with fail
  refine (new_ok 20 w (by omega) (by omega)).mono ?_
  rintro e w1 ⟨gd, FD, rfl, hd, hFD, hb1⟩
  have HB1 := Lib.hid hb1
  have HNW := Lib.hid (soNew_ok hd 1 (M + 1) h1N h8N (by simp [Dk.new]; omega))
  clear hb1 hd hFD
  go_wp2_with fail
  rw [hN.out, HM.out]
  clear hN HM hNl
  generalize M + 1 = N at *
  refine HNW.out.mono ?_
  rintro e w2 ⟨s, rfl, -, -, hb2⟩
  have B2 := Lib.hid (below2 HB1.out hb2)
  clear hb2 HB1 HNW
  go_wp2_with fail
  refine (awake7 _).mono ?_
  rintro e w3 ⟨rfl, hb3⟩
  have B3 := Lib.hid (below2 B2.out hb3)
  clear hb3 B2
  by_cases hl : isLong7 ops
  · go_wp2_with fail
    refine (long7_any v ops _ (HV.out.keep B3.out) true (by simp [hl])).mono ?_
    rintro e w4 ⟨rfl, hb4⟩
    have B4 := Lib.hid (below2 B3.out hb4)
    clear hb4 B3
    go_wp2_with fail
    refine (awake7 _).mono ?_
    rintro e w6 ⟨rfl, hb6⟩
    have B6 := Lib.hid (below2 B4.out hb6)
    clear hb6 B4
    go_wp2
    go_ret
    exact ⟨rfl, B6.out⟩
  · have LG := Lib.hid (long7_any v ops _ (HV.out.keep B3.out) false (by simp [hl]))
    go_wp2_with fail
    refine LG.out.mono ?_
    rintro e w4 ⟨rfl, hb4⟩
    have B4 := Lib.hid (below2 B3.out hb4)
    clear hb4 B3 LG
    by_cases h20 : (20 : Int) < again.length
    · go_wp2_with fail
      refine (awake7 _).mono ?_
      rintro e w6 ⟨rfl, hb6⟩
      have B6 := Lib.hid (below2 B4.out hb6)
      clear hb6 B4
      go_wp2
      go_ret
      exact ⟨rfl, B6.out⟩
    · have LG := Lib.hid (long7_any _ again _ (HV2.out.keep B4.out) true (by simp; rcases HH.out with h | h | h; exact absurd h hl; omega; exact h))
      go_wp2_with fail
      refine LG.out.mono ?_
      rintro e w5 ⟨rfl, hb5⟩
      have B5 := Lib.hid (below2 B4.out hb5)
      clear hb5 B4 LG
      go_wp2_with fail
      refine (awake7 _).mono ?_
      rintro e w6 ⟨rfl, hb6⟩
      have B6 := Lib.hid (below2 B5.out hb6)
      clear hb6 B5
      go_wp2
      go_ret
      exact ⟨rfl, B6.out⟩
end
end Go.Proofs.Ytpjkejgnnceanaa

/- careenlaw07.StoreWhole, walked: the rounds. -/
namespace Go.Proofs.Ytpjkejgnnceanaa
open Go.RowKit

theorem putP_self (P : Nat → Pag) (i : Nat) : putP P i (P i) = P := by
  funext k
  unfold putP
  split
  · rename_i h; rw [h]
  · rfl
/-- Pages that were made empty up to the k-th. -/
def upTo (k : Nat) : Nat → Pag := fun j => if j < k then emptyPg else (0, ⟨#[]⟩)
theorem upTo_next (k : Nat) : putP (upTo k) k emptyPg = upTo (k + 1) := by
  funext j
  unfold putP upTo
  by_cases h : j = k
  · rw [if_pos h, if_pos (by omega)]
  · rw [if_neg h]
    by_cases h2 : j < k
    · rw [if_pos h2, if_pos (by omega)]
    · rw [if_neg h2, if_neg (by omega)]
section
set_option maxRecDepth 100000
variable (v v2 : Value) (ops again : List Op7) (n : Int) (w : World) (hv : IsOps7 w v ops) (hv2 : IsOps7 w v2 again)
include hv hv2
set_option maxHeartbeats 64000000 in
theorem storeWhole_go (h : ¬ (isLong7 ops ∨ 20 < again.length ∨ isLong7 again)) :
    Calls Try.prog 3 #[.int .i64 n, v, v2] w fun e w' => e = .returned (.bool true) ∧ Below w.heap.size w w' := by
  have hN : Hid (wrap64 ((IntKind.u64.wrap n).tmod 8) = (modN n 8 : Int)) := modN_eq n 8 (by omega) (by omega)
  have hNl : modN n 8 < 8 := by have := modN_lt n 8 (by omega); omega
  have HV := Lib.hid hv
  have HV2 := Lib.hid hv2
  have hL : ¬ isLong7 ops := fun hl => h (.inl hl)
  have hL2 : ¬ isLong7 again := fun hl => h (.inr (.inr hl))
  have h20 : ¬ (20 : Int) < again.length := fun hl => h (.inr (.inl (by omega)))
  have h200 : ops.length ≤ 200 := Classical.byContradiction fun hn => hL (.inr (by omega))
  have hops : (ops.length : Int) ≤ 200 := by omega
  clear hv h hv2
  generalize modN n 8 = M at *
  have hM1 : wrap64 ((1 : Int) + (M : Int)) = ((M + 1 : Nat) : Int) := by unfold wrap64; omega
  have HM := Lib.hid hM1
  have h1N : 1 ≤ M + 1 := by omega
  have h8N : M + 1 ≤ 8 := by omega
  clear hM1
  have HV3 := Lib.hid HV2.out
  have HV1 := Lib.hid HV.out
  obtain ⟨a1, cap1, rfl, -⟩ := HV1.out
  obtain ⟨a2, cap2, rfl, -⟩ := HV2.out
  go_enter Try.func3, Try.ntmps3
  go_wp2_with fail
  refine (new_ok 20 w (by omega) (by omega)).mono ?_
  rintro e w1 ⟨gd, FD, rfl, hd, hFD, hb1⟩
  have HB1 := Lib.hid hb1
  have HFD := Lib.hid hFD
  have HNW := Lib.hid (soNew_ok hd 1 (M + 1) h1N h8N (by simp [Dk.new]; omega))
  clear hb1 hd hFD
  go_wp2_with fail
  rw [hN.out, HM.out]
  clear hN HM hNl
  generalize M + 1 = N at *
  refine HNW.out.mono ?_
  rintro e w2 ⟨s, rfl, hs2, hge2, hb2⟩
  have L2 : Hid (Live7 w w2 FD s gd (Dk.new 20) 1 N 1 (fun _ => emptyPg) (fun _ => none)) := ⟨hs2, Calm7.new (by omega) (by omega) (by omega), HFD.out, Nat.le_trans HB1.out.size hge2, below2 HB1.out hb2, Nat.le_refl _, h1N⟩
  clear hs2 hge2 hb2 HB1 HNW HFD
  go_wp2_with fail
  refine (awake7 _).mono ?_
  rintro e w3 ⟨rfl, hb3⟩
  have L3 := Lib.hid (L2.out.more hb3)
  clear hb3 L2
  have LG := Lib.hid (long7_any _ ops _ (HV1.out.keep L3.out.below) false (by simp [hL]))
  go_wp2_with fail
  refine LG.out.mono ?_
  rintro e w4 ⟨rfl, hb4⟩
  have L4 := Lib.hid (L3.out.more hb4)
  clear hb4 L3 LG
  have LG := Lib.hid (long7_any _ again _ (HV3.out.keep L4.out.below) false (by simp [hL2]))
  go_wp2_with fail
  refine LG.out.mono ?_
  rintro e w5 ⟨rfl, hb5⟩
  have L5 := Lib.hid (L4.out.more hb5)
  clear hb5 L4 LG
  go_upto_region 7 with fail
  have hz : upTo 0 = fun _ => (0, ⟨#[]⟩) := by funext j; unfold upTo; rw [if_neg (by omega)]
  have W6 := Blk.new w5 35 (wantV (upTo 0))
  have L6 := L5.out.more ((Below.refl w5.heap.size w5).alloc (Nat.le_refl _) (.cells (wantV (upTo 0)) 35))
  have hwb : ¬ OfS FD s w5.heap.size := fun hb => by
    rcases hb with hb | hb
    · have := L5.out.sto.disk.lt _ hb; omega
    · have := L5.out.sto.head.lt; omega
  have hwb2 : w.heap.size ≤ w5.heap.size := L5.out.below.size
  change Code.wp _ _ _ _ (w5.alloc (.cells (wantV fun _ => (0, ⟨#[]⟩)) 35))
  rw [← hz]
  generalize w5.alloc (.cells (wantV (upTo 0)) 35) = w6 at *
  generalize w5.heap.size = wb at *
  have HW6 := Lib.hid W6
  have HL6 := Lib.hid L6
  have HWB := Lib.hid hwb
  clear hz W6 L6 hwb L5
  go_wp2_with fail
  go_loopw [63] (fun vk wr => ∃ k : Nat, vk = .int .i64 k ∧ k ≤ 8 ∧ Live7 w wr FD s gd (Dk.new 20) 1 N 1 (fun _ => emptyPg) (fun _ => none) ∧ Blk wr wb 35 (wantV (upTo k))) (fun vk _ => 8 - (intOf vk).toNat)
  case atStart => exact ⟨0, rfl, Nat.zero_le _, HL6.out, HW6.out⟩
  case round =>
    obtain ⟨k, rfl, hk, hl, hw⟩ := hrel
    have L7 := Lib.hid hl
    have W7 := Lib.hid hw
    clear hl hw HL6 HW6
    by_cases hlt : k < 8
    · go_wp2_with fail
      refine (pgRefEmpty_any _).mono ?_
      rintro e w8 ⟨rfl, hb8⟩
      have L8 := Lib.hid (L7.out.more hb8)
      have W8 := Lib.hid (W7.out.keep hb8 W7.out.lt)
      clear hb8 L7 W7
      have hz8 := W8.out.frozen (k * 2)
      have hz9 := W8.out.frozen (k * 2 + 1)
      obtain ⟨g0, g1⟩ := wantV_at (upTo k) hlt
      have c0 := (W8.out.cell (k * 2)).trans g0
      have c1 := (W8.out.cell (k * 2 + 1)).trans g1
      clear g0 g1
      have L9 := Lib.hid (L8.out.aside (putW_spare w8 wb k emptyPg) HWB.out hwb2)
      have W9 := Lib.hid (putW_blk W8.out hlt emptyPg)
      rw [upTo_next] at W9
      clear L8 W8
      go_wp2_with fail
      go_roundw
      case rel => exact ⟨k + 1, by go_num, by omega, L9.out, W9.out⟩
      case measure => simp [intOf]; omega
    · have hk8 : k = 8 := by omega
      have W8 : Hid (Blk wr wb 35 (wantV fun _ => emptyPg)) := by
        rw [hk8] at W7
        rw [← wantV_congr (P := upTo 8) (fun i hi => by unfold upTo; rw [if_pos hi])]
        exact W7.out
      have START : Hid (WholeAt w wr wb gd N 0 s) := ⟨FD, _, 1, _, _, L7.out, rfl, Nat.le_refl _, HWB.out, W8.out⟩
      clear L7 W7 W8 HWB hk8
      have hN1 : (1 : Int) ≤ (N : Int) := by omega
      have hN8 : (N : Int) ≤ 8 := by omega
      go_wp2_with fail
      go_loopw [9, 72] (fun vs vk wr => ∃ (k s : Nat), vs = .pointer (some ⟨s, 0, none⟩) ∧ vk = .int .i64 k ∧ k ≤ ops.length ∧ WholeAt w wr wb gd N k s) (fun _ vk _ => ops.length - (intOf vk).toNat)
      case atStart => exact ⟨0, s, rfl, rfl, Nat.zero_le _, START.out⟩
      case round =>
        obtain ⟨k, s3, rfl, rfl, hk', hst⟩ := hrel
        obtain ⟨F, D, t, P, σ, hl, hf, ht, hn, hw⟩ := hst.ex
        have L := Lib.hid hl
        have HF := Lib.hid hf
        have HT := Lib.hid ht
        have HN := Lib.hid hn
        have HW := Lib.hid hw
        clear hl hf ht hn hw hst START
        by_cases hlt : k < ops.length
        · obtain ⟨b, off, cap', hva, _, _, hbw, hel⟩ := HV1.out.at_ (by omega)
          cases hva
          obtain ⟨ka, kc, hrd, hwf, hown, hc⟩ := hel k hlt
          obtain ⟨c0, c1, c2, c3, c4, c5⟩ := hc.keep L.out.below
          have hM : Hid (wrap64 ((IntKind.u64.wrap ops[k].i).tmod N) = (modN ops[k].i N : Int)) := modN_eq _ N (by omega) (by omega)
          have hMl : modN ops[k].i N < N := by have := modN_lt ops[k].i N (by omega); omega
          have HRD := Lib.hid hrd
          have HOWN := Lib.hid hown
          clear hel hc hrd hwf hown
          generalize ops[k] = o at *
          generalize modN o.i N = I at *
          have hnw := Blk.new wr 39 op7Zero
          have N3 := hnw.setRow (op7Cells o (.slice ka o.picks.length kc))
          have hb3 : Below wr.heap.size wr ((wr.alloc (.cells op7Zero 39)).setRow wr.heap.size (op7Cells o (.slice ka o.picks.length kc))) := below_setRow ((Below.refl _ _).alloc (Nat.le_refl _) _) (Nat.le_refl _) _
          have L3 := Lib.hid (L.out.more hb3)
          have W3 := Lib.hid (HW.out.keep hb3 HW.out.lt)
          have hxF : ¬ OfS F s3 wr.heap.size := fun hb => by
            rcases hb with hb | hb
            · have := L.out.sto.disk.lt _ hb; omega
            · have := L.out.sto.head.lt; omega
          have hxw : wr.heap.size ≠ wb := by have := HW.out.lt; omega
          go_upto_region 15 with (refine wpList_store_row rfl 39 _ _ rfl wr.heap.size _ rfl rfl 39 _ hnw (by kernel_rfl) rfl (by simp [Value.oneCell']) ?_)
          clear hnw hb3 c0 c1 c2 c3 c4 c5 hbw L HW
          change Code.wp _ _ _ _ ((wr.alloc (.cells op7Zero 39)).setRow wr.heap.size (op7Cells o (.slice ka o.picks.length kc)))
          generalize (wr.alloc (.cells op7Zero 39)).setRow wr.heap.size (op7Cells o (.slice ka o.picks.length kc)) = w3 at *
          generalize wr.heap.size = x at *
          have OC : Hid (∀ W, Blk W x 39 (op7Cells o (.slice ka o.picks.length kc)) → W.cell? ⟨x, 0, none⟩ = some (.int .i64 o.kind) ∧ W.cell? ⟨x, 1, none⟩ = some (.int .i64 o.i) ∧ W.cell? ⟨x, 2, none⟩ = some (.int .i64 o.n) ∧ W.cell? ⟨x, 3, none⟩ = some (.int .i64 o.at_) ∧ W.cell? ⟨x, 4, none⟩ = some (.string o.data) ∧ W.cell? ⟨x, 5, none⟩ = some (.slice ka o.picks.length kc)) := fun W h => ⟨h.cell 0, h.cell 1, h.cell 2, h.cell 3, h.cell 4, h.cell 5⟩
          have HX := Lib.hid N3
          have HXF := Lib.hid hxF
          have HXW := Lib.hid hxw
          clear N3 hxF hxw
          obtain ⟨d0, d1, d2, d3, d4, -⟩ := OC.out _ HX.out
          have hwN : IntKind.u64.wrap (N : Int) = (N : Int) := by rw [IntKind.wrap_u64]; omega
          have hN0 : ¬ (N : Int) = 0 := by omega
          by_cases hp : PgOk o.at_ o.data
          · have HP := Lib.hid (fun W => pgRefRight_any (a := o.at_) (d := o.data) (w := W) true (by simp [hp]))
            have HPK := Lib.hid hp
            clear hp
            go_wp2_with fail
            rw [hM.out]
            go_wp2_with fail
            refine (HP.out _).mono ?_
            rintro e w8 ⟨rfl, hb8⟩
            have L8 := Lib.hid (L3.out.more hb8)
            have W8 := Lib.hid (W3.out.keep hb8 W3.out.lt)
            have X8 := Lib.hid (HX.out.keep hb8 HX.out.lt)
            clear hb8 L3 W3 HX HP d0 d1 d2 d3 d4 hwN hN0 hM
            have hI8 : I < 8 := by omega
            have hI8' : (I : Int) < 8 := by omega
            obtain ⟨g0, g1⟩ := wantV_at P hI8
            have c0 := (W8.out.cell (I * 2)).trans g0
            have c1 := (W8.out.cell (I * 2 + 1)).trans g1
            clear g0 g1
            go_upto_region 18 with fail
            have ba : Below w8.heap.size w8 (w8.alloc (.cells #[.int .i64 (P I).1, .string (P I).2] 34)) := (Below.refl _ _).alloc (Nat.le_refl _) _
            have L9 := Lib.hid (L8.out.more ba)
            have W9 := Lib.hid (W8.out.alloc (.cells #[.int .i64 (P I).1, .string (P I).2] 34))
            have X9 := Lib.hid (X8.out.alloc (.cells #[.int .i64 (P I).1, .string (P I).2] 34))
            have Y9 := Lib.hid (Blk.new w8 34 #[.int .i64 (P I).1, .string (P I).2])
            have HYF : Hid (¬ OfS F s3 w8.heap.size) := fun hb => by
              rcases hb with hb | hb
              · have := L8.out.sto.disk.lt _ hb; omega
              · have := L8.out.sto.head.lt; omega
            have HYW : Hid (w8.heap.size ≠ wb) := fun e => by have := W8.out.lt; omega
            change Code.wp _ _ _ _ (w8.alloc (.cells #[.int .i64 (P I).1, .string (P I).2] 34))
            clear c0 c1 L8 W8 X8 ba
            generalize w8.alloc (.cells #[.int .i64 (P I).1, .string (P I).2] 34) = w9 at *
            generalize w8.heap.size = y at *
            obtain ⟨d0, d1, d2, d3, d4, d5⟩ := OC.out _ X9.out
            go_upto_if 92 with fail
            go_cut [9, 10, 18, 19, 20] from 92 to 169 (fun s9 s10 s18 s19 s20 wx => ∃ s' : Nat, s9 = .pointer (some ⟨s', 0, none⟩) ∧ WholeAt w wx wb gd N (k + 1) s')
            case first =>
              by_cases hk1 : (0 : Int) < o.kind
              · have WR := Lib.hid (L9.out.write (by have := HT.out; omega) hMl (p := (o.at_, o.data)) HPK.out (fun m hm => by rw [HF.out] at hm; cases hm))
                go_wp2_with fail
                refine WR.out.mono ?_
                rintro e w10 ⟨rfl, F', D', σ', hl, st, hf, -⟩
                have L10 := Lib.hid hl
                have HF10 : Hid (D'.fuse = none) := by show _ = _; rw [hf, HF.out]; rfl
                have W10 := Lib.hid (st.blk W9.out HN.out)
                have X10 := Lib.hid (st.blk X9.out HXF.out)
                have HN10 := Lib.hid (st.far W9.out.lt HN.out)
                clear hl st hf WR L9 W9 X9 Y9 HYF HYW HXF d0 d1 d2 d3 d4 d5
                obtain ⟨d0, d1, d2, d3, d4, d5⟩ := OC.out _ X10.out
                obtain ⟨g0, g1⟩ := wantV_at P hI8
                have c0 := (W10.out.cell (I * 2)).trans g0
                have c1 := (W10.out.cell (I * 2 + 1)).trans g1
                have z0 := W10.out.frozen (I * 2)
                have z1 := W10.out.frozen (I * 2 + 1)
                clear g0 g1
                have L11 := Lib.hid (L10.out.aside (putW_spare w10 wb I (o.at_, o.data)) HN10.out hwb2)
                have W11 := Lib.hid (putW_blk W10.out hI8 (o.at_, o.data))
                clear L10 W10 X10
                go_wp2_with fail
                go_meet
                exact ⟨s3, rfl, ⟨F', D', t + 1, _, σ', L11.out, HF10.out, by have := HT.out; omega, HN10.out, W11.out⟩⟩
              · have h12 : Hid (wrap64 ((IntKind.u64.wrap o.n).tmod 12) = (modN o.n 12 : Int)) := modN_eq o.n 12 (by omega) (by omega)
                have h12l : modN o.n 12 < 12 := by have := modN_lt o.n 12 (by omega); omega
                generalize modN o.n 12 = fz at *
                go_wp2_with fail
                rw [h12.out]
                go_wp2_with fail
                refine (L9.out.arm (fz : Int) (by omega)).mono ?_
                rintro e w10 ⟨rfl, hl, st⟩
                have L10 := Lib.hid hl
                have W10 := Lib.hid (st.blk W9.out HN.out)
                have X10 := Lib.hid (st.blk X9.out HXF.out)
                have Y10 := Lib.hid (st.blk Y9.out HYF.out)
                clear hl st L9 W9 X9 Y9 d0 d1 d2 d3 d4 d5 h12
                obtain ⟨d0, d1, d2, d3, d4, d5⟩ := OC.out _ X10.out
                have WR := Lib.hid (L10.out.tried (by have := HT.out; omega) hMl (p := (o.at_, o.data)) HPK.out (arm_fuse D fz) o.picks)
                have HNO := Lib.hid L10.out.newO
                have HBE := Lib.hid L10.out.below
                clear L10
                go_wp2_with fail
                refine WR.out.mono ?_
                rintro e w11 ⟨r, F2, D2, rfl, hd, st, P', hP', hbe⟩
                have HD := Lib.hid hd
                have HBH := Lib.hid hbe
                have HPP := Lib.hid hP'
                have W11 := Lib.hid (st.blk W10.out HN.out)
                have X11 := Lib.hid (st.blk X10.out HXF.out)
                have Y11 := Lib.hid (st.blk Y10.out HYF.out)
                have HN11 := Lib.hid (st.far W10.out.lt HN.out)
                have HXF11 := Lib.hid (st.far X10.out.lt HXF.out)
                have HYF11 := Lib.hid (st.far Y10.out.lt HYF.out)
                have HNO11 := Lib.hid (st.from_ HNO.out HBE.out.size)
                have HB11 := Lib.hid (st.belowB HNO.out HBE.out HBE.out.size)
                clear hd st hbe hP' WR W10 X10 Y10 HNO HBE HXF HYF d0 d1 d2 d3 d4 d5
                obtain ⟨d0, d1, d2, d3, d4, d5⟩ := OC.out _ X11.out
                go_wp2_with fail
                have BS : Hid (Beside F2 w11 wb x y P (op7Cells o (.slice ka o.picks.length kc)) #[.int .i64 (P I).1, .string (P I).2]) := ⟨fun h => HN11.out (.inl h), fun h => HXF11.out (.inl h), fun h => HYF11.out (.inl h), W11.out, X11.out, Y11.out⟩
                refine (crash_behind HD.out HBH.out BS.out (fun b h => HNO11.out b (.inl h)) HB11.out (by have := HT.out; omega) (by omega) h1N h8N HRD.out HOWN.out).mono ?_
                rintro e w12 ⟨rfl, hla⟩
                have LA := Lib.hid hla
                have HT2 : Hid (t ≤ k + 1 ∧ k ≤ 200) := ⟨HT.out, by omega⟩
                clear hla HD HBH W11 X11 Y11 HN11 HXF11 HYF11 HNO11 HB11 BS d0 d1 d2 d3 d4 d5
                go_wp2_with fail
                go_loopw [121] (fun vj wr => ∃ j : Nat, vj = .int .i64 j ∧ j ≤ again.length ∧ LostAt w wr wb x y gd N (t + 1) P P' (op7Cells o (.slice ka o.picks.length kc)) #[.int .i64 (P I).1, .string (P I).2]) (fun vj _ => again.length - (intOf vj).toNat)
                case atStart => exact ⟨0, rfl, Nat.zero_le _, LA.out⟩
                case round =>
                  obtain ⟨j, rfl, hj, hla⟩ := hrel
                  have LB := Lib.hid hla
                  clear hla LA
                  by_cases hjl : j < again.length
                  · obtain ⟨b2, off2, cap2', hva2, _, _, hbw2, hel2⟩ := HV3.out.at_ (by omega)
                    cases hva2
                    obtain ⟨ka2, kc2, hrd2, -, hown2, hc2⟩ := hel2 j hjl
                    obtain ⟨F4, D4, σ4, hl4, hf4, hbs4⟩ := LB.out.ex
                    obtain ⟨c0, c1, c2, c3, c4, c5⟩ := hc2.keep hl4.below
                    have HL4 := Lib.hid hl4
                    have HBS4 := Lib.hid hbs4
                    have HRD2 := Lib.hid hrd2
                    have HOWN2 := Lib.hid hown2
                    clear hel2 hc2 hrd2 hown2 hl4 hf4 hbs4 LB
                    generalize again[j] = u at *
                    have h4 : Hid (wrap64 ((IntKind.u64.wrap u.n).tmod 4) = (modN u.n 4 : Int)) := modN_eq u.n 4 (by omega) (by omega)
                    have h4l : modN u.n 4 < 4 := by have := modN_lt u.n 4 (by omega); omega
                    generalize modN u.n 4 = fu at *
                    have hnw := Blk.new wr 39 op7Zero
                    have N5 := hnw.setRow (op7Cells u (.slice ka2 u.picks.length kc2))
                    have hb5 : Below wr.heap.size wr ((wr.alloc (.cells op7Zero 39)).setRow wr.heap.size (op7Cells u (.slice ka2 u.picks.length kc2))) := below_setRow ((Below.refl _ _).alloc (Nat.le_refl _) _) (Nat.le_refl _) _
                    have HL5 := Lib.hid (HL4.out.keep hb5)
                    have HBS5 := Lib.hid (HBS4.out.more hb5)
                    have hzF : ¬ F4 wr.heap.size := fun hb => by have := HL4.out.disk.lt _ hb; omega
                    go_upto_region 28 with (refine wpList_store_row rfl 39 _ _ rfl wr.heap.size _ rfl rfl 39 _ hnw (by kernel_rfl) rfl (by simp [Value.oneCell']) ?_)
                    clear hnw hb5 c0 c1 c2 c3 c4 c5 hbw2 HL4 HBS4
                    change Code.wp _ _ _ _ ((wr.alloc (.cells op7Zero 39)).setRow wr.heap.size (op7Cells u (.slice ka2 u.picks.length kc2)))
                    generalize (wr.alloc (.cells op7Zero 39)).setRow wr.heap.size (op7Cells u (.slice ka2 u.picks.length kc2)) = w13 at *
                    generalize wr.heap.size = z at *
                    have d2 : w13.cell? ⟨z, 2, none⟩ = some (.int .i64 u.n) := N5.cell 2
                    have HZF := Lib.hid hzF
                    have HN5 := Lib.hid N5
                    clear hzF N5
                    go_wp2_with fail
                    rw [h4.out]
                    go_wp2_with fail
                    refine (HL5.out.armed (fu : Int) (by omega)).mono ?_
                    rintro e w14 ⟨rfl, hl6, st6⟩
                    have HL6 := Lib.hid hl6
                    have HBS6 := Lib.hid (HBS5.out.step st6)
                    have HN6 := Lib.hid (st6.blk HN5.out HZF.out)
                    clear hl6 st6 HL5 HBS5 HN5 d2 h4
                    have OP := Lib.hid (HL6.out.tried (arm_fuse D4 fu) u.picks)
                    have HNF := Lib.hid HL6.out.newF
                    have HBE := Lib.hid HL6.out.below
                    clear HL6
                    go_wp2_with fail
                    refine OP.out.mono ?_
                    rintro e w15 ⟨v15, F5, D5, rfl, hd, st, hbe⟩
                    have HD := Lib.hid hd
                    have HBH := Lib.hid hbe
                    have HBS7 := Lib.hid (HBS6.out.step st)
                    have HN7 := Lib.hid (st.blk HN6.out HZF.out)
                    have HNF7 := Lib.hid (st.from_ HNF.out HBE.out.size)
                    have HB7 := Lib.hid (st.belowB HNF.out HBE.out HBE.out.size)
                    have d5 : w15.cell? ⟨z, 5, none⟩ = some (.slice ka2 u.picks.length kc2) := HN7.out.cell 5
                    clear hd st hbe OP HNF HBE HBS6 HN6 HZF
                    go_wp2_with fail
                    refine (crash_behind HD.out HBH.out HBS7.out HNF7.out HB7.out (by have := HT2.out; omega) (by omega) h1N h8N HRD2.out HOWN2.out).mono ?_
                    rintro e w16 ⟨rfl, hla⟩
                    have LC := Lib.hid hla
                    clear hla HD HBH HBS7 HN7 HNF7 HB7 d5
                    go_wp2_with fail
                    go_roundw
                    case rel => exact ⟨j + 1, by go_num, by omega, LC.out⟩
                    case measure => simp [intOf]; omega
                  · obtain ⟨F4, D4, σ4, hl4, hf4, hbs4⟩ := LB.out.ex
                    have HL4 := Lib.hid hl4
                    have HBS4 := Lib.hid hbs4
                    have HF4 := Lib.hid hf4
                    clear hl4 hbs4 hf4 LB
                    go_wp2_with fail
                    refine (HL4.out.open_ (fun m hm => by rw [HF4.out] at hm; cases hm)).mono ?_
                    rintro e w16 ⟨s5, F5, D5, σ5, rfl, hl5, hc5, hge, st5, hf5, -⟩
                    have L16 := Lib.hid hl5
                    have HBS := Lib.hid (HBS4.out.step st5)
                    have HF5 : Hid (D5.fuse = none) := hf5 HF4.out
                    have HNX : Hid (nextOf σ5 N ≤ k + 1 + 1) := by
                      have h1 := nextOf_le hc5.tidy (by omega)
                      have h2 := HT2.out
                      show nextOf σ5 N ≤ _
                      omega
                    have HNB : Hid (¬ OfS F5 s5 wb) := fun hb => by
                      rcases hb with hb | hb
                      · exact HBS.out.nb hb
                      · have := HBS4.out.want.lt; omega
                    clear hl5 hc5 hge st5 hf5 HL4 HBS4 HF4
                    have R16 := Lib.hid (L16.out.read (by have := HNX.out; have := HT2.out; omega) hMl)
                    have HKP := Lib.hid (putP_kept HPP.out)
                    have HCS : Hid (((P' I).1 = (P I).1 ∧ (P' I).2 = (P I).2) ∨ (P' I).1 = o.at_ ∧ (P' I).2 = o.data) := by
                      rcases HPP.out with h | h
                      · left; rw [h]; exact ⟨rfl, rfl⟩
                      · right; rw [h, putP_same]; exact ⟨rfl, rfl⟩
                    generalize hgp : P' I = gp at *
                    obtain ⟨ga, gd'⟩ := gp
                    clear hgp
                    simp only at R16 HCS
                    go_wp2_with fail
                    refine R16.out.mono ?_
                    rintro e w17 ⟨rfl, hb17⟩
                    have bq := hb17.alloc hb17.size (.cells #[.int .i64 ga, .string gd'] 34)
                    have L18 := Lib.hid (L16.out.more bq)
                    have BS18 := Lib.hid (HBS.out.more bq)
                    have G18 := Lib.hid (Blk.new w17 34 #[.int .i64 ga, .string gd'])
                    clear hb17 bq L16 HBS R16
                    go_upto_region 36 with fail
                    change Code.wp _ _ _ _ (w17.alloc (.cells #[.int .i64 ga, .string gd'] 34))
                    generalize w17.alloc (.cells #[.int .i64 ga, .string gd'] 34) = w18 at *
                    generalize w17.heap.size = g at *
                    have e0 : w18.cell? ⟨g, 0, none⟩ = some (.int .i64 ga) := G18.out.cell 0
                    have e1 : w18.cell? ⟨g, 1, none⟩ = some (.string gd') := G18.out.cell 1
                    have f0 : w18.cell? ⟨y, 0, none⟩ = some (.int .i64 (P I).1) := BS18.out.was.cell 0
                    have f1 : w18.cell? ⟨y, 1, none⟩ = some (.string (P I).2) := BS18.out.was.cell 1
                    obtain ⟨-, -, -, d3, d4, -⟩ := OC.out _ BS18.out.op
                    obtain ⟨g0, g1⟩ := wantV_at P hI8
                    have c0 := (BS18.out.want.cell (I * 2)).trans g0
                    have c1 := (BS18.out.want.cell (I * 2 + 1)).trans g1
                    have z0 := BS18.out.want.frozen (I * 2)
                    have z1 := BS18.out.want.frozen (I * 2 + 1)
                    have L19 := Lib.hid (L18.out.aside (putW_spare w18 wb I (ga, gd')) HNB.out hwb2)
                    have W19 := Lib.hid (putW_blk BS18.out.want hI8 (ga, gd'))
                    rw [HKP.out] at W19
                    clear g0 g1 L18 BS18 G18 HKP
                    by_cases hs : ga = (P I).1 ∧ gd' = (P I).2
                    · rw [← hs.1] at f0
                      rw [← hs.2] at f1
                      clear hs HCS
                      go_wp2_with (refine wp_page_unlike _ _ _ rfl rfl ga gd' rfl rfl ?_)
                      go_meet
                      exact ⟨s5, rfl, ⟨F5, D5, _, P', σ5, L19.out, HF5.out, HNX.out, HNB.out, W19.out⟩⟩
                    · have hs2 : ga = o.at_ ∧ gd' = o.data := HCS.out.resolve_left hs
                      have hsq := Lib.hid hs
                      rw [← hs2.1] at d3
                      rw [← hs2.2] at d4
                      clear hs2 HCS hs
                      go_wp2_with (first
                        | (refine wp_page_other _ _ _ rfl rfl ga (P I).1 gd' (P I).2 hsq.out rfl rfl ?_)
                        | (refine wp_page_unlike _ _ _ rfl rfl ga gd' rfl rfl ?_))
                      go_meet
                      exact ⟨s5, rfl, ⟨F5, D5, _, P', σ5, L19.out, HF5.out, HNX.out, HNB.out, W19.out⟩⟩
            case rest =>
              obtain ⟨s5, rfl, hst⟩ := hcut
              obtain ⟨F6, D6, t6, P6, σ6, hl6, hf6, ht6, hn6, hw6⟩ := hst.ex
              have L20 := Lib.hid hl6
              have W20 := Lib.hid hw6
              have HF6 := Lib.hid hf6
              have HT6 := Lib.hid ht6
              have HN6 := Lib.hid hn6
              have hk2 : k ≤ 200 := by omega
              clear hl6 hw6 hf6 ht6 hn6 hst L9 W9 X9 Y9 HYF HYW HXF HXW OC d0 d1 d2 d3 d4 d5 HF HT HN HPK
              go_wp2_with fail
              go_loopw [171] (fun vj wr => ∃ j : Nat, vj = .int .i64 j ∧ j ≤ N ∧ Live7 w wr F6 s5 gd D6 1 N t6 P6 σ6 ∧ Blk wr wb 35 (wantV P6)) (fun vj _ => N - (intOf vj).toNat)
              case atStart => exact ⟨0, rfl, Nat.zero_le _, L20.out, W20.out⟩
              case round =>
                obtain ⟨j, rfl, hj, hl, hw⟩ := hrel
                have L21 := Lib.hid hl
                have W21 := Lib.hid hw
                clear hl hw L20 W20
                by_cases hjl : j < N
                · have R21 := Lib.hid (L21.out.read (by have := HT6.out; omega) hjl)
                  go_wp2_with fail
                  refine R21.out.mono ?_
                  rintro e w22 ⟨rfl, hb22⟩
                  have bq := hb22.alloc hb22.size (.cells #[.int .i64 (P6 j).1, .string (P6 j).2] 34)
                  have L22 := Lib.hid (L21.out.more bq)
                  have W22 := Lib.hid (W21.out.keep bq W21.out.lt)
                  have G22 := Lib.hid (Blk.new w22 34 #[.int .i64 (P6 j).1, .string (P6 j).2])
                  clear hb22 bq L21 W21 R21
                  go_upto_region 43 with fail
                  change Code.wp _ _ _ _ (w22.alloc (.cells #[.int .i64 (P6 j).1, .string (P6 j).2] 34))
                  generalize w22.alloc (.cells #[.int .i64 (P6 j).1, .string (P6 j).2] 34) = w23 at *
                  generalize w22.heap.size = g at *
                  have hj8 : (j : Int) < 8 := by omega
                  obtain ⟨g0, g1⟩ := wantV_at P6 (show j < 8 by omega)
                  have C : Hid (∀ W, Below w23.heap.size w23 W → W.cell? ⟨g, 0, none⟩ = some (.int .i64 (P6 j).1) ∧ W.cell? ⟨g, 1, none⟩ = some (.string (P6 j).2) ∧ W.cell? ⟨wb, j * 2, none⟩ = some (.int .i64 (P6 j).1) ∧ W.cell? ⟨wb, j * 2 + 1, none⟩ = some (.string (P6 j).2)) := fun W hW =>
                    ⟨(G22.out.keep hW G22.out.lt).cell 0, (G22.out.keep hW G22.out.lt).cell 1, ((W22.out.keep hW W22.out.lt).cell (j * 2)).trans g0, ((W22.out.keep hW W22.out.lt).cell (j * 2 + 1)).trans g1⟩
                  clear g0 g1 G22
                  refine' wp_region_conf 9 (.is _ :: .is _ :: .is _ :: .is _ :: .is _ :: .is _ :: .is _ :: .is _ :: .is _ :: []) (by kernel_rfl) (by kernel_rfl) (by kernel_rfl) (by kernel_rfl) rfl ?main
                  case main =>
                    iterate 9
                      apply obs_step
                      · rfl
                      · intro w9 hE9 hk
                        obtain ⟨q0, q1, q2, q3⟩ := C.out w9 ((Below.refl _ _).drew.trans hE9)
                        clear hk hE9
                        go_wp2_with (refine wp_page_unlike _ _ _ rfl rfl (P6 j).1 (P6 j).2 rfl rfl ?_)
                        refine post_eq ?_ (Below.refl _ _)
                        simp only [Act.put, List.setIfInBounds_toArray, List.set_cons_zero, List.set_cons_succ]
                        try rfl
                      · simp only [Act.put, List.setIfInBounds_toArray, List.set_cons_zero, List.set_cons_succ]
                        rfl
                    refine obs_end fun w24 hE24 _ => ?_
                    have b24 := (Below.refl w23.heap.size w23).drew.trans hE24
                    have L24 := Lib.hid (L22.out.more b24)
                    have W24 := Lib.hid (W22.out.keep b24 W22.out.lt)
                    clear hE24 b24 L22 W22 C
                    change wpList _ _ _ _ _ _
                    go_wp2_with fail
                    go_roundw
                    case rel => exact ⟨j + 1, by go_num, by omega, L24.out, W24.out⟩
                    case measure => simp [intOf]; omega
                · go_wp2_with fail
                  go_roundw
                  case rel => exact ⟨k + 1, s5, rfl, by go_num, by omega, ⟨F6, D6, t6, P6, σ6, L21.out, HF6.out, HT6.out, HN6.out, W21.out⟩⟩
                  case measure => simp [intOf]; omega
          · have HP := Lib.hid (fun W => pgRefRight_any (a := o.at_) (d := o.data) (w := W) false (by simp [hp]))
            clear hp
            go_wp2_with fail
            rw [hM.out]
            go_wp2_with fail
            refine (HP.out _).mono ?_
            rintro e w8 ⟨rfl, hb8⟩
            have L8 := Lib.hid (L3.out.more hb8)
            have W8 := Lib.hid (W3.out.keep hb8 W3.out.lt)
            clear hb8 L3 W3 HP
            go_wp2_with fail
            go_roundw
            case rel => exact ⟨k + 1, s3, rfl, by go_num, by omega, ⟨F, D, t, P, σ, L8.out, HF.out, by have := HT.out; omega, HN.out, W8.out⟩⟩
            case measure => simp [intOf]; omega
        · obtain rfl : k = ops.length := by omega
          go_wp2
          go_ret
          exact ⟨rfl, L.out.below⟩
end
theorem walkStoreWhole (n : Int) (v : Value) (ops : List Op7) (v2 : Value) (again : List Op7) (w : World) (_ : (Lit.int .i64 n).wf = true) (hv : IsOps7 w v ops) (hv2 : IsOps7 w v2 again) :
    Calls Try.prog 3 #[.int .i64 n, v, v2] w fun e w' => e = .returned (.bool true) ∧ Below w.heap.size w w' := by
  by_cases h : isLong7 ops ∨ 20 < again.length ∨ isLong7 again
  · exact storeWhole_early v v2 ops again n w hv hv2 h
  · exact storeWhole_go v v2 ops again n w hv hv2 h
end Go.Proofs.Ytpjkejgnnceanaa

/- careenlaw07.StoreWhole: it returns true for every input, and leaves its arguments as they were: the row's proof, out of the walk.
   Conditions: none beside the row's own (each argument is read as data). -/
namespace Go.Proofs.Ytpjkejgnnceanaa.storeWhole
open Go.ChangeShapes Go.WideShapes Go.ChangeAt Go.RowKit Go.Joins
open Go.ChangeMaps (open_string shut_string)
set_option linter.unusedVariables false

theorem own : ownKnob Try.prog.godebug = none := by kernel_rfl
theorem laidOut : laidOutB Try.prog = true := by kernel_rfl

set_option maxRecDepth 100000 in
theorem lifted (os : Os) (started : os.Started) (H : Type) (enc : TypeId × Value → H) :
    ReturnsInHanded {} Try.checked os 3 .any (Rows.storeWholeSpec.pre6 enc Try.prog Try.f3 Rows.storeWholeRow.domain false) (Rows.storeWholeSpec.post enc Try.prog Try.f3 false true false false) := by
  refine returnsInHanded_of_change (C := Try.checked) own started (by kernel_rfl) Try.func3
    (ChangeSpec.witness6 (enc := enc) (C := Try.checked) false ⟨#[], #[.int .i64 0, .slice none 0 0, .slice none 0 0], []⟩ 8 (by kernel_rfl) (by kernel_rfl) (by kernel_rfl) (by kernel_rfl)) ?_
  intro W base args ds gs before hval0 hW hcnd _
  have hval : ∀ (j : Nat) t v, Try.f3.params[j]? = some t → args[j]? = some v → Value.okWide Try.prog W .any base t v := hval0
  have hW' := hW
  obtain ⟨p, q, hA0, hV, rfl, hfz, hnd⟩ := hW
  have hA : DataW.TrodAll enc Try.prog W 0 (fun _ => true) true Try.f3.params.toList args.toList ds p := hA0
  rw [Try.params3] at hA hval
  obtain ⟨v0, vs0, d0, ds0, p0, q0, hargs, rfl, rfl, h0, r0⟩ := trodAll_cons hA
  obtain ⟨v1, vs1, d1, ds1, p1, q1, rfl, rfl, rfl, h1, r1⟩ := trodAll_cons r0
  obtain ⟨v2, vs2, d2, ds2, p2, q2, rfl, rfl, rfl, h2, r2⟩ := trodAll_cons r1
  obtain ⟨rfl, rfl, rfl⟩ := trodAll_nil r2
  obtain rfl : args = #[v0, v1, v2] := by cases args; simp_all
  obtain ⟨rfl, rfl⟩ := trodVars_none hV
  have k0 := h0
  have lt0 : ∀ x ∈ p0, x.block < W.heap.size := by obtain ⟨m, hm⟩ := k0; exact DataW.trod_lt m _ _ _ hm
  have k1 := h1
  have lt1 : ∀ x ∈ p1, x.block < W.heap.size := by obtain ⟨m, hm⟩ := k1; exact DataW.trod_lt m _ _ _ hm
  have k2 := h2
  have lt2 : ∀ x ∈ p2, x.block < W.heap.size := by obtain ⟨m, hm⟩ := k2; exact DataW.trod_lt m _ _ _ hm
  obtain ⟨a0, rfl, rfl, rfl, w0⟩ := open_int Try.underlying3 (hval 0 3 v0 rfl rfl) h0
  obtain ⟨a1, w1⟩ := open_ops7 (hval 1 22 v1 rfl rfl) h1
  obtain ⟨a2, w2⟩ := open_ops7 (hval 2 22 v2 rfl rfl) h2
  clear hA0 hval0
  refine (walkStoreWhole a0 v1 a1 v2 a2 W w0 w1 w2).mono fun e W' ⟨he, bel⟩ => ?_
  subst he
  exact ⟨_, rfl, _, _, _, [], _, [], hW', trodAll_mk1 (shut_bool Try.underlying4 _), (trodAll_cons_mk (Below.trod laidOut (by kernel_rfl) (of_decide_eq_true (by kernel_rfl)) k0 bel lt0) (trodAll_cons_mk (Below.trod laidOut (by kernel_rfl) (of_decide_eq_true (by kernel_rfl)) k1 bel lt1) (trodAll_cons_mk (Below.trod laidOut (by kernel_rfl) (of_decide_eq_true (by kernel_rfl)) k2 bel lt2) trodAll_mk0))), rfl, bel.frame _, fun h => by cases h⟩

theorem over : Rows.storeWholeRow.holds Try.pinned (OpenSpec.ofChange Rows.storeWholeSpec) :=
  OpenClaim.holds_of_wide 3 Try.f3 rfl rfl rfl rfl rfl rfl rfl ⟨rfl, rfl, rfl, rfl, rfl⟩ rfl rfl rfl rfl rfl (by kernel_rfl) Try.func3 (by kernel_rfl)
    (of_decide_eq_true (by kernel_rfl)) (by unfold Func.isWrapper; first | (rw [if_pos (by decide +kernel)]; kernel_rfl) | (rw [if_neg (by decide +kernel)]; exact ⟨rfl, rfl⟩))
    (fun os started H enc _ => lifted os started H enc)

/-- The given statement. -/
theorem proved : Rows.StoreWholeSaid := over
end Go.Proofs.Ytpjkejgnnceanaa.storeWhole
