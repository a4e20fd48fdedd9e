/- careenlaw07.StoreOpens: it returns true for every input, and leaves its arguments as they were: the row's proof, out of the walk.
   Conditions: none beside the row's own (each argument is read as data). -/
import Derived.Test.YtpjkejgnnceanaaOpenL
import Derived.Test.YtpjkejgnnceanaaOpen
import Derived.Test.YtpjkejgnnceanaaJdisk
import Derived.Test.YtpjkejgnnceanaaJsoB
import Derived.Test.YtpjkejgnnceanaaUint
import Derived.ProofKit
import Derived.OpenShut
import Derived.ShutString
import Derived.ChangeOld
import Derived.Below
import Derived.Lib.SmallJoins
/- careenlaw07: operations that came in; are there more than are played? -/
namespace Go.Proofs.Ytpjkejgnnceanaa
open Go.ChangeShapes Go.WideShapes Go.RowKit
set_option maxRecDepth 100000

theorem Reads.own {w : World} {v : Value} {vs : List Value} (h : Reads w v vs) (hn : vs ≠ []) : ∀ b, v.ownBlock = some b → b < w.heap.size := by
  rcases h.cases with ⟨rfl, _⟩ | ⟨b, off, cap, rfl, _, _, hb, _⟩
  · exact absurd rfl hn
  · intro b' hb'
    simp only [Value.ownBlock, Option.some.injEq] at hb'
    omega
structure Op7 where
  kind : Int
  i : Int
  n : Int
  at_ : Int
  data : ByteArray
  picks : List UInt8
def op7Cells (o : Op7) (pv : Value) : Array Value := #[.int .i64 o.kind, .int .i64 o.i, .int .i64 o.n, .int .i64 o.at_, .string o.data, pv]
structure Op7Wf (o : Op7) : Prop where
  kind : (Lit.int .i64 o.kind).wf = true
  i : (Lit.int .i64 o.i).wf = true
  n : (Lit.int .i64 o.n).wf = true
  at_ : (Lit.int .i64 o.at_).wf = true
  data : o.data.size ≤ maxLen
  picks : o.picks.length ≤ maxLen
def Op7Q (w : World) (cs : List Value) (o : Op7) : Prop := ∃ pv, cs = (op7Cells o pv).toList ∧ Reads w pv (byteVs o.picks) ∧ Op7Wf o
abbrev IsOps7 (w : World) (v : Value) (l : List Op7) : Prop := ListOf 6 Op7Q w v l
theorem Op7Q.keep {w w' : World} {cs : List Value} {o : Op7} (h : Op7Q w cs o) (hb : Below w.heap.size w w') : Op7Q w' cs o := by
  obtain ⟨pv, e, hr, hw⟩ := h
  exact ⟨pv, e, hr.keep hb, hw⟩
theorem IsOps7.keep {w w' : World} {v : Value} {l : List Op7} (h : IsOps7 w v l) (hb : Below w.heap.size w w') : IsOps7 w' v l := ListOf.keep h (fun _ _ hq => hq.keep hb) hb
theorem cellsOp7 : Try.prog.cellsOf 39 = 6 := by kernel_rfl
theorem cellsInt7 : Try.prog.cellsOf 3 = 1 := by kernel_rfl
theorem cellsByte7 : Try.prog.cellsOf 5 = 1 := by kernel_rfl
theorem cellsStr7 : Try.prog.cellsOf 9 = 1 := by kernel_rfl
theorem cellsPage7 : Try.prog.cellsOf 34 = 2 := by kernel_rfl
theorem cellsPicks7 : Try.prog.cellsOf 37 = 1 := by kernel_rfl
theorem read_op7 {H : Type} {enc : TypeId × Value → H} {W : World} {n : Nat} {cs : List Value} {y : DataW H × List MemPlace} (hcl : cs.length = 6) (h : DataW.trod enc Try.prog W 0 (fun _ => true) true n 39 cs = some y) : ∃ o : Op7, Op7Q W cs o := by
  obtain ⟨xs, k, _, _, _, hxl, hg⟩ := DataW.trod_struct Try.underlying39 h
  match cs, hcl with
  | [x0, x1, x2, x3, x4, x5], _ =>
    match xs, hxl with
    | [y0, y1, y2, y3, y4], _ =>
      have g0 : DataW.trod enc Try.prog W 0 (fun _ => true) true k 3 (([x0, x1, x2, x3, x4, x5].drop 0).take (Try.prog.cellsOf 3)) = [y0, y1, y2, y3, y4][0]? := hg 0 _ rfl
      have g1 : DataW.trod enc Try.prog W 0 (fun _ => true) true k 3 (([x0, x1, x2, x3, x4, x5].drop 1).take (Try.prog.cellsOf 3)) = [y0, y1, y2, y3, y4][1]? := hg 1 _ rfl
      have g2 : DataW.trod enc Try.prog W 0 (fun _ => true) true k 3 (([x0, x1, x2, x3, x4, x5].drop 2).take (Try.prog.cellsOf 3)) = [y0, y1, y2, y3, y4][2]? := hg 2 _ rfl
      have g3 : DataW.trod enc Try.prog W 0 (fun _ => true) true k 34 (([x0, x1, x2, x3, x4, x5].drop 3).take (Try.prog.cellsOf 34)) = [y0, y1, y2, y3, y4][3]? := hg 3 _ rfl
      have g4 : DataW.trod enc Try.prog W 0 (fun _ => true) true k 37 (([x0, x1, x2, x3, x4, x5].drop 5).take (Try.prog.cellsOf 37)) = [y0, y1, y2, y3, y4][4]? := hg 4 _ rfl
      simp only [cellsInt7, cellsPage7, cellsPicks7, List.drop_zero, List.drop_succ_cons, List.take_succ_cons, List.take_zero, List.getElem?_cons_zero, List.getElem?_cons_succ] at g0 g1 g2 g3 g4
      obtain ⟨z0, e0, _, w0⟩ := DataW.trod_int Try.underlying3 g0
      obtain ⟨z1, e1, _, w1⟩ := DataW.trod_int Try.underlying3 g1
      obtain ⟨z2, e2, _, w2⟩ := DataW.trod_int Try.underlying3 g2
      obtain ⟨v5, l5, e5, r5, h5⟩ := reads_bytes Try.underlying37 Try.underlying5 cellsByte7 g4
      obtain ⟨ps, k2, _, _, _, hpl, hp⟩ := DataW.trod_struct Try.underlying34 g3
      match ps, hpl with
      | [p0, p1], _ =>
        have q0 : DataW.trod enc Try.prog W 0 (fun _ => true) true k2 3 (([x3, x4].drop 0).take (Try.prog.cellsOf 3)) = [p0, p1][0]? := hp 0 _ rfl
        have q1 : DataW.trod enc Try.prog W 0 (fun _ => true) true k2 9 (([x3, x4].drop 1).take (Try.prog.cellsOf 9)) = [p0, p1][1]? := hp 1 _ rfl
        simp only [cellsInt7, cellsStr7, List.drop_zero, List.drop_succ_cons, List.take_succ_cons, List.take_zero, List.getElem?_cons_zero, List.getElem?_cons_succ] at q0 q1
        obtain ⟨z3, e3, _, w3⟩ := DataW.trod_int Try.underlying3 q0
        obtain ⟨z4, e4, _, w4⟩ := DataW.trod_string Try.underlying9 q1
        simp only [List.cons.injEq, and_true] at e0 e1 e2 e3 e4 e5
        subst e0 e1 e2 e3 e4 e5
        exact ⟨⟨z0, z1, z2, z3, z4, l5⟩, x5, rfl, r5, ⟨w0, w1, w2, w3, w4, h5⟩⟩
theorem open_ops7 {H : Type} {enc : TypeId × Value → H} {W : World} {b0 : Nat} {r : Reach} {v : Value} {d : DataW H} {p : List MemPlace} (hval : Value.okWide Try.prog W r b0 22 v) (h : DataW.Trod enc Try.prog W 0 (fun _ => true) true 22 v d p) :
    ∃ l, IsOps7 W v l :=
  haveI : Inhabited Op7 := ⟨⟨0, 0, 0, 0, ⟨#[]⟩, []⟩⟩
  open_list Try.underlying22 6 (by decide) cellsOp7 hval h Op7Q fun _ _ _ hcl ht => read_op7 hcl ht
/-- An operation in cells behind one another. -/
structure Op7At (w : World) (b o : Nat) (x : Op7) (pv : Value) : Prop where
  c0 : w.cell? ⟨b, o, none⟩ = some (.int .i64 x.kind)
  c1 : w.cell? ⟨b, o + 1, none⟩ = some (.int .i64 x.i)
  c2 : w.cell? ⟨b, o + 2, none⟩ = some (.int .i64 x.n)
  c3 : w.cell? ⟨b, o + 3, none⟩ = some (.int .i64 x.at_)
  c4 : w.cell? ⟨b, o + 4, none⟩ = some (.string x.data)
  c5 : w.cell? ⟨b, o + 5, none⟩ = some pv
theorem Op7At.mk' {w : World} {b o : Nat} {x : Op7} {pv : Value} (h : ∀ i u, (op7Cells x pv)[i]? = some u → w.cell? ⟨b, o + i, none⟩ = some u) : Op7At w b o x pv :=
  ⟨h 0 _ rfl, h 1 _ rfl, h 2 _ rfl, h 3 _ rfl, h 4 _ rfl, h 5 _ rfl⟩
theorem Op7At.keep {w w' : World} {b o : Nat} {x : Op7} {pv : Value} (h : Op7At w b o x pv) (hb : Below w.heap.size w w') : Op7At w' b o x pv := by
  have hlt := World.block_lt_of_cell? w ⟨b, o, none⟩ h.c0
  have k : ∀ x, w'.cell? ⟨b, x, none⟩ = w.cell? ⟨b, x, none⟩ := fun x => hb.cell (p := ⟨b, x, none⟩) hlt
  exact ⟨(k _).trans h.c0, (k _).trans h.c1, (k _).trans h.c2, (k _).trans h.c3, (k _).trans h.c4, (k _).trans h.c5⟩
theorem IsOps7.at_ {w : World} {v : Value} {l : List Op7} (h : IsOps7 w v l) (hl : 0 < l.length) : ∃ b off cap, v = .slice (some ⟨b, off, none⟩) l.length cap ∧ l.length ≤ cap ∧ cap ≤ maxLen ∧ b < w.heap.size ∧
    ∀ j (hj : j < l.length), ∃ ka kc, Reads w (.slice ka l[j].picks.length kc) (byteVs l[j].picks) ∧ Op7Wf l[j] ∧ (l[j].picks ≠ [] → ∀ b, (Value.slice ka l[j].picks.length kc).ownBlock = some b → b < w.heap.size) ∧ Op7At w b (off + j * 6) l[j] (.slice ka l[j].picks.length kc) := by
  rcases h.cases with ⟨rfl, _⟩ | ⟨b, off, cap, rfl, _, h2, h3, h4, h5⟩
  · simp at hl
  refine ⟨b, off, cap, rfl, h2, h3, h4, fun j hj => ?_⟩
  obtain ⟨cs, ⟨pv, rfl, hr, hw⟩, hc⟩ := h5 j hj
  have hw2 : l[j].picks ≠ [] → ∀ b, pv.ownBlock = some b → b < w.heap.size := fun hp => hr.own (by intro e; apply hp; have := congrArg List.length e; simp [byteVs] at this; exact this)
  have hr2 := hr
  obtain ⟨ka, kc, e'', _⟩ := hr2
  rw [show (byteVs l[j].picks).length = l[j].picks.length by simp [byteVs]] at e''
  subst e''
  exact ⟨ka, kc, hr, hw, hw2, .mk' fun i u hu => hc i u (by rw [Array.getElem?_toList]; exact hu)⟩

def isLong7 (ops : List Op7) : Prop := (∃ o ∈ ops, 500 < o.data.size ∨ 200 < o.picks.length) ∨ 200 < ops.length
/-- The variable's cells, spelled as the walk spells them. -/
def op7Zero : Array Value := #[.int .i64 0, .int .i64 0, .int .i64 0, .int .i64 0, .string ⟨#[]⟩, .slice none 0 0]
set_option maxHeartbeats 16000000 in
theorem long7_any (v : Value) (ops : List Op7) (w : World) (hr : IsOps7 w v ops) (yes : Bool) (hy : yes = true ↔ isLong7 ops) :
    Calls Try.prog 10 #[v] w fun e w' => e = .returned (.bool yes) ∧ Below w.heap.size w w' := by
  have HV := Lib.hid hr
  obtain ⟨a, cap, rfl, h1, h2, _⟩ := hr
  have hm : (ops.length : Int) ≤ 9223372036854775807 := by unfold maxLen at h2; omega
  have HY := Lib.hid hy
  clear h1 h2 hy
  go_enter Try.func10, Try.ntmps10
  go_wp2_with fail
  go_loopw [7] (fun vk wr => ∃ k : Nat, vk = .int .i64 k ∧ k ≤ ops.length ∧ Below w.heap.size w wr ∧ ∀ o ∈ ops.take k, ¬ 500 < o.data.size ∧ ¬ 200 < o.picks.length) (fun vk _ => ops.length - (intOf vk).toNat)
  case atStart => exact ⟨0, rfl, Nat.zero_le _, Below.refl _ _, fun o ho => by simp at ho⟩
  case round =>
    obtain ⟨k, rfl, hk, hB, hall⟩ := hrel
    have HB := Lib.hid hB
    have HALL := Lib.hid hall
    clear hB hall
    by_cases hlt : k < ops.length
    · obtain ⟨b, off, cap', hva, _, _, hbw, hel⟩ := HV.out.at_ (by omega)
      cases hva
      obtain ⟨ka, kc, hrd, hwf, _, hc⟩ := hel k hlt
      have HIN : Hid (ops[k] ∈ ops) := List.getElem_mem hlt
      have HTK : Hid (ops.take (k + 1) = ops.take k ++ [ops[k]]) := by unfold Hid; rw [List.take_succ_eq_append_getElem hlt]
      have hp : (ops[k].picks.length : Int) ≤ 9223372036854775807 := by have := hwf.picks; unfold maxLen at this; omega
      have hd : (ops[k].data.size : Int) ≤ 9223372036854775807 := by have := hwf.data; unfold maxLen at this; omega
      obtain ⟨c0, c1, c2, c3, c4, c5⟩ := hc.keep HB.out
      clear hel hc hrd hwf
      generalize ops[k] = o at *
      have hn := Blk.new wr 39 op7Zero
      have N3 := hn.setRow (op7Cells o (.slice ka o.picks.length kc))
      have hb3 : Below wr.heap.size wr ((wr.alloc (.cells op7Zero 39)).setRow wr.heap.size (op7Cells o (.slice ka o.picks.length kc))) := below_setRow ((Below.refl _ _).alloc (Nat.le_refl _) _) (Nat.le_refl _) _
      have HB3 := Lib.hid (below2 HB.out hb3)
      go_upto_region 4 with (refine wpList_store_row rfl 39 _ _ rfl wr.heap.size _ rfl rfl 39 _ hn (by kernel_rfl) rfl (by simp [Value.oneCell']) ?_)
      clear hn hb3 c0 c1 c2 c3 c4 c5 HB hbw
      change Code.wp _ _ _ _ ((wr.alloc (.cells op7Zero 39)).setRow wr.heap.size (op7Cells o (.slice ka o.picks.length kc)))
      generalize (wr.alloc (.cells op7Zero 39)).setRow wr.heap.size (op7Cells o (.slice ka o.picks.length kc)) = w3 at *
      generalize wr.heap.size = x at *
      have d4 : w3.cell? ⟨x, 4, none⟩ = some (.string o.data) := N3.cell 4
      have d5 : w3.cell? ⟨x, 5, none⟩ = some (.slice ka o.picks.length kc) := N3.cell 5
      clear N3
      by_cases hf : 500 < o.data.size
      · have hf2 : (500 : Int) < o.data.size := by omega
        have hyes : yes = true := HY.out.2 (.inl ⟨o, HIN.out, .inl hf⟩)
        clear hf
        go_wp2
        go_ret
        exact ⟨by first | rfl | (rw [hyes]; rfl), HB3.out⟩
      · have hf2 : ¬ (500 : Int) < o.data.size := by omega
        by_cases hp2 : 200 < o.picks.length
        · have hp3 : (200 : Int) < o.picks.length := by omega
          have hyes : yes = true := HY.out.2 (.inl ⟨o, HIN.out, .inr hp2⟩)
          clear hf hp2
          go_wp2
          go_ret
          exact ⟨by first | rfl | (rw [hyes]; rfl), HB3.out⟩
        · have hp3 : ¬ (200 : Int) < o.picks.length := by omega
          have HALL2 : Hid (∀ q ∈ ops.take (k + 1), ¬ 500 < q.data.size ∧ ¬ 200 < q.picks.length) := fun q hq => by
            rw [HTK.out] at hq
            rcases List.mem_append.1 hq with hq | hq
            · exact HALL.out q hq
            · simp at hq; subst hq; exact ⟨hf, hp2⟩
          clear HALL hp2 hf
          go_wp2
          go_roundw
          case rel => exact ⟨k + 1, by go_num, by omega, HB3.out, HALL2.out⟩
          case measure => simp [intOf]; omega
    · obtain rfl : k = ops.length := by omega
      have hyes : yes = decide ((200 : Int) < ops.length) := by
        have hall := HALL.out
        rw [List.take_length] at hall
        have h2 : isLong7 ops ↔ (200 : Int) < ops.length := by
          unfold isLong7
          constructor
          · rintro (⟨o, ho, h⟩ | h)
            · have := hall o ho
              rcases h with h | h
              · exact absurd h this.1
              · exact absurd h this.2
            · omega
          · intro h; exact .inr (by omega)
        by_cases h : (200 : Int) < ops.length
        · rw [decide_eq_true h]; exact HY.out.2 (h2.2 h)
        · rw [decide_eq_false h]
          cases hyy : yes with
          | true => exact absurd (h2.1 (HY.out.1 hyy)) h
          | false => rfl
      go_wp2
      go_ret
      exact ⟨by rw [hyes]; rfl, HB.out⟩
end Go.Proofs.Ytpjkejgnnceanaa

/- careenlaw07.StoreOpens, walked. -/
namespace Go.Proofs.Ytpjkejgnnceanaa
open Go.RowKit

/-- A page isn't unlike itself. -/
theorem wp_page_unlike {ops : Array Oper} {rest : List Oper} {o : Oper} {a : Act} {w : World} {Q : Exit → Act → World → Prop} (x y : Operand) (ty : TypeId) (ho : o.op = .binOp .neq 34 x y ty)
    (hw : Region.wanted o (yielded ops a.tmps) = true) (A : Int) (D : ByteArray) (hx : a.eval x = .agg #[.int .i64 A, .string D]) (hy : a.eval y = .agg #[.int .i64 A, .string D])
    (h : wpList Try.prog ops Q rest (a.put o.dst (.bool false)) w) : wpList Try.prog ops Q (o :: rest) a w :=
  wp_page_neq x y ty ho hw A A D D hx hy (by simpa using h)
/-- The last write's ticket lies in the journal. -/
def Last7 (σ : Sg) (t : Nat) : Prop := t = 1 ∨ ∃ b, σ 0 = some (t - 1, b)
theorem Last7.next {σ : Sg} {n t : Nat} (h : Last7 σ t) : t ≤ nextOf σ n := by
  rcases h with rfl | ⟨b, hb⟩
  · exact nextTo_one σ _
  · have := nextTo_gt σ (3 + 2 * n) 0 (by omega) _ b hb
    have e : nextOf σ n = nextTo σ (3 + 2 * n) := rfl
    omega
/-- The store that a call has beside another one over the same disk. -/
theorem Live7.beside {w0 w w' : World} {F F' : Foot} {s s2 gd base n t t2 : Nat} {D D' : Dk} {P P2 : Nat → Pag} {σ σ' : Sg} (h : Live7 w0 w F s gd D base n t P σ) (h2 : Live7 w0 w' F' s2 gd D' base n t2 P2 σ') (st : Step F F' w w') (hc : Calm7 D' base n t P σ') : Live7 w0 w' F' s gd D' base n t P σ' :=
  ⟨h.sto.onDisk h2.sto.disk st, hc, h2.newF, h.newS, h2.below, h.pos, h.n1⟩
theorem Live7.lost {w0 w : World} {F : Foot} {s gd base n t : Nat} {D : Dk} {P : Nat → Pag} {σ : Sg} (h : Live7 w0 w F s gd D base n t P σ) (ht : t ≤ 4294967296) : Lost7 w0 w F gd D base n t P σ := ⟨h.sto.disk, h.calm.torn, h.newF, h.below, ht, h.pos, h.n1, h.sto.n8⟩
section
set_option maxRecDepth 100000
variable (v : Value) (ops : List Op7) (n : Int) (w : World) (hv : IsOps7 w v ops)
include hv
set_option maxHeartbeats 16000000 in
theorem storeOpens_early (h : isLong7 ops) :
    Calls Try.prog 6 #[.int .i64 n, v] w fun e w' => e = .returned (.bool true) ∧ Below w.heap.size w w' := by
  have hN : Hid (wrap64 ((IntKind.u64.wrap n).tmod 8) = (modN n 8 : Int)) := modN_eq n 8 (by omega) (by omega)
  have hNl : modN n 8 < 8 := by have := modN_lt n 8 (by omega); omega
  have HV := Lib.hid hv
  clear hv
  generalize modN n 8 = M at *
  have hM1 : wrap64 ((1 : Int) + (M : Int)) = ((M + 1 : Nat) : Int) := by unfold wrap64; omega
  have hM2 : (M : Int) < 8 := by omega
  have HM := Lib.hid hM1
  have h1N : 1 ≤ M + 1 := by omega
  have h8N : M + 1 ≤ 8 := by omega
  clear hM1
  go_enter Try.func6, Try.ntmps6
  go_wp2_with fail
  rw [hN.out]
  go_wp2_with fail
  rw [HM.out]
  clear hM2 hN HM hNl
  generalize M + 1 = N at *
  refine (soSectors_any N h8N _).mono ?_
  rintro e w1 ⟨rfl, rfl⟩
  go_wp2_with fail
  refine (new_ok (3 + 2 * N) _ (by omega) (by omega)).mono ?_
  rintro e w1 ⟨gd, FD, rfl, hd, hFD, hb1⟩
  rw [show 3 + 2 * N = 0 + (3 + 2 * N) by omega] at hd
  have HD := Lib.hid hd
  have HFD := Lib.hid hFD
  have HB1 := Lib.hid hb1
  clear hd hFD hb1
  go_wp2_with fail
  refine (Live7.make (w0 := w) (base := 0) (n := N) HD.out HFD.out HB1.out h1N h8N).mono ?_
  rintro e w2 ⟨s, rfl, hl, -⟩
  have L2 := Lib.hid hl
  clear hl HD HFD HB1
  go_wp2_with fail
  refine (awake7 _).mono ?_
  rintro e w3 ⟨rfl, hb3⟩
  have L3 := Lib.hid (L2.out.more hb3)
  clear hb3 L2
  go_wp2_with fail
  refine (long7_any v ops _ (HV.out.keep L3.out.below) true (by simp [h])).mono ?_
  rintro e w4 ⟨rfl, hb4⟩
  have L4 := Lib.hid (L3.out.more hb4)
  clear hb4 L3
  go_wp2_with fail
  refine (awake7 _).mono ?_
  rintro e w6 ⟨rfl, hb6⟩
  have L6 := Lib.hid (L4.out.more hb6)
  clear hb6 L4
  go_wp2
  go_ret
  exact ⟨rfl, L6.out.below⟩
set_option maxHeartbeats 16000000 in
theorem storeOpens_go (h : ¬ isLong7 ops) :
    Calls Try.prog 6 #[.int .i64 n, v] w fun e w' => e = .returned (.bool true) ∧ Below w.heap.size w w' := by
  have h200 : ops.length ≤ 200 := Classical.byContradiction fun hn => h (.inr (by omega))
  have hops : (ops.length : Int) ≤ 200 := by omega
  have hN : Hid (wrap64 ((IntKind.u64.wrap n).tmod 8) = (modN n 8 : Int)) := modN_eq n 8 (by omega) (by omega)
  have hNl : modN n 8 < 8 := by have := modN_lt n 8 (by omega); omega
  have HV := Lib.hid hv
  clear hv
  generalize modN n 8 = M at *
  have hM1 : wrap64 ((1 : Int) + (M : Int)) = ((M + 1 : Nat) : Int) := by unfold wrap64; omega
  have hM2 : (M : Int) < 8 := by omega
  have HM := Lib.hid hM1
  have h1N : 1 ≤ M + 1 := by omega
  have h8N : M + 1 ≤ 8 := by omega
  clear hM1
  go_enter Try.func6, Try.ntmps6
  go_wp2_with fail
  rw [hN.out]
  go_wp2_with fail
  rw [HM.out]
  clear hM2 hN HM hNl
  generalize M + 1 = N at *
  refine (soSectors_any N h8N _).mono ?_
  rintro e w1 ⟨rfl, rfl⟩
  go_wp2_with fail
  refine (new_ok (3 + 2 * N) _ (by omega) (by omega)).mono ?_
  rintro e w1 ⟨gd, FD, rfl, hd, hFD, hb1⟩
  rw [show 3 + 2 * N = 0 + (3 + 2 * N) by omega] at hd
  have HD := Lib.hid hd
  have HFD := Lib.hid hFD
  have HB1 := Lib.hid hb1
  clear hd hFD hb1
  go_wp2_with fail
  refine (Live7.make (w0 := w) (base := 0) (n := N) HD.out HFD.out HB1.out h1N h8N).mono ?_
  rintro e w2 ⟨s, rfl, hl, -⟩
  have L2 := Lib.hid hl
  clear hl HD HFD HB1
  go_wp2_with fail
  refine (awake7 _).mono ?_
  rintro e w3 ⟨rfl, hb3⟩
  have L3 := Lib.hid (L2.out.more hb3)
  clear hb3 L2
  have LG := Lib.hid (long7_any v ops _ (HV.out.keep L3.out.below) false (by simp [h]))
  go_wp2_with fail
  refine LG.out.mono ?_
  rintro e w4 ⟨rfl, hb4⟩
  have L4 := Lib.hid (L3.out.more hb4)
  clear hb4 L3 LG
  have HV2 := Lib.hid HV.out
  obtain ⟨a0, cap, rfl, -⟩ := HV.out
  have hN1 : (1 : Int) ≤ (N : Int) := by omega
  have hN8 : (N : Int) ≤ 8 := by omega
  go_wp2_with fail
  go_loopw [52] (fun vk wr => ∃ (k : Nat) (F : Foot) (D : Dk) (t : Nat) (P : Nat → Pag) (σ : Sg), vk = .int .i64 k ∧ k ≤ ops.length ∧ Live7 w wr F s gd D 0 N t P σ ∧ D.fuse = none ∧ t ≤ k + 1 ∧ Last7 σ t) (fun vk _ => ops.length - (intOf vk).toNat)
  case atStart => exact ⟨0, FD, _, 1, _, _, rfl, Nat.zero_le _, L4.out, rfl, Nat.le_refl _, .inl rfl⟩
  case round =>
    obtain ⟨k, F, D, t, P, σ, rfl, hk, hl, hf, ht, hla⟩ := hrel
    have L6 := Lib.hid hl
    have HF := Lib.hid hf
    have HT := Lib.hid ht
    have HLA := Lib.hid hla
    clear hl hf ht L4 hla
    by_cases hlt : k < ops.length
    · obtain ⟨b, off, cap', hva, _, _, hbw, hel⟩ := HV2.out.at_ (by omega)
      cases hva
      obtain ⟨ka, kc, -, -, -, hc⟩ := hel k hlt
      obtain ⟨c0, c1, c2, c3, c4, c5⟩ := hc.keep L6.out.below
      have hM : Hid (wrap64 ((IntKind.u64.wrap ops[k].i).tmod N) = (modN ops[k].i N : Int)) := modN_eq _ N (by omega) (by omega)
      have hMl : Hid (modN ops[k].i N < N) := show modN ops[k].i N < N by have := modN_lt ops[k].i N (by omega); omega
      clear hel hc
      generalize ops[k] = o at *
      generalize modN o.i N = M at *
      have hn := Blk.new wr 39 op7Zero
      have N3 := hn.setRow (op7Cells o (.slice ka o.picks.length kc))
      have hb3 : Below wr.heap.size wr ((wr.alloc (.cells op7Zero 39)).setRow wr.heap.size (op7Cells o (.slice ka o.picks.length kc))) := below_setRow ((Below.refl _ _).alloc (Nat.le_refl _) _) (Nat.le_refl _) _
      have L7 := Lib.hid (L6.out.more hb3)
      go_upto_region 9 with (refine wpList_store_row rfl 39 _ _ rfl wr.heap.size _ rfl rfl 39 _ hn (by kernel_rfl) rfl (by simp [Value.oneCell']) ?_)
      clear hn hb3 c0 c1 c2 c3 c4 c5 L6 hbw
      change Code.wp _ _ _ _ ((wr.alloc (.cells op7Zero 39)).setRow wr.heap.size (op7Cells o (.slice ka o.picks.length kc)))
      generalize (wr.alloc (.cells op7Zero 39)).setRow wr.heap.size (op7Cells o (.slice ka o.picks.length kc)) = w7 at *
      generalize wr.heap.size = x at *
      have C : Hid (∀ W, Below w7.heap.size w7 W → W.cell? ⟨x, 1, none⟩ = some (.int .i64 o.i) ∧ W.cell? ⟨x, 3, none⟩ = some (.int .i64 o.at_) ∧ W.cell? ⟨x, 4, none⟩ = some (.string o.data)) := fun W hW => ⟨(N3.keep hW N3.lt).cell 1, (N3.keep hW N3.lt).cell 3, (N3.keep hW N3.lt).cell 4⟩
      clear N3
      have WR : Hid (∀ W, Below w7.heap.size w7 W → Calls Try.prog 13 #[.pointer (some ⟨s, 0, none⟩), .int .i64 M, .agg #[.int .i64 o.at_, .string o.data]] W fun e w' => ∃ r F' D' t' P' σ', e = .returned (.int .i64 r) ∧ Live7 w w' F' s gd D' 0 N t' P' σ' ∧ D'.fuse = none ∧ t' ≤ k + 1 + 1 ∧ Last7 σ' t') := fun W hW => by
        have L := L7.out.more hW
        by_cases hp : PgOk o.at_ o.data
        · exact (L.write (by have := HT.out; omega) hMl.out (p := (o.at_, o.data)) hp (fun m hm => by rw [HF.out] at hm; cases hm)).mono fun _ _ ⟨he, F', D', σ', hl, _, hf, hb⟩ => ⟨0, F', D', _, _, σ', he, hl, by rw [hf, HF.out]; rfl, by have := HT.out; omega, .inr hb⟩
        · exact (L.form hMl.out hp).mono fun _ _ ⟨he, F', hl, _⟩ => ⟨3, F', D, _, _, σ, he, hl, HF.out, by have := HT.out; omega, HLA.out⟩
      have hwN : IntKind.u64.wrap (N : Int) = (N : Int) := by rw [IntKind.wrap_u64]; omega
      have hN0 : ¬ (N : Int) = 0 := by omega
      clear L7 HF HT hMl HLA
      refine' wp_region_conf 10 (.is _ :: .is _ :: .is _ :: .is _ :: .is _ :: .is _ :: .is _ :: .is (.int .i64 M) :: .is _ :: .is _ :: []) (by kernel_rfl) (by kernel_rfl) (by kernel_rfl) (by kernel_rfl) rfl ?main
      case main =>
        iterate 10
          refine obs_is (fun w9 hE9 _ => ?_) ?_
          · obtain ⟨d1, d3, d4⟩ := C.out w9 ((Below.refl _ _).drew.trans hE9)
            go_wp2
            first | exact post_is (Below.refl _ _) | (rw [hM.out]; exact post_is (Below.refl _ _))
          simp only [Act.put, List.setIfInBounds_toArray, List.set_cons_zero, List.set_cons_succ]
        refine obs_end fun w9 hE9 _ => ?_
        have HB9 := Lib.hid ((Below.refl w7.heap.size w7).drew.trans hE9)
        clear hE9 C
        change wpList _ _ _ _ _ _
        go_wp2_with fail
        refine (WR.out _ HB9.out).mono ?_
        rintro e w8 ⟨r, F', D', t', P', σ', rfl, hl, hf, ht, hla⟩
        have L8 := Lib.hid hl
        have HF8 := Lib.hid hf
        have HT8 := Lib.hid ht
        have HLA8 := Lib.hid hla
        clear hl hf ht WR hla
        go_wp2_with fail
        go_roundw
        case rel => exact ⟨k + 1, F', D', t', P', σ', by go_num, by omega, L8.out, HF8.out, HT8.out, HLA8.out⟩
        case measure => simp [intOf]; omega
    · obtain rfl : k = ops.length := by omega
      have hT9 : t ≤ 4294967296 := by have := HT.out; omega
      clear HV HV2 HT hk
      go_wp2_with fail
      refine ((L6.out.lost hT9).open_ (fun m hm => by rw [HF.out] at hm; cases hm)).mono ?_
      rintro e w8 ⟨s2, F', D', σ', rfl, hl8, hc8, -, st8, -, hk8⟩
      have hla8 : Last7 σ' t := HLA.out.imp id fun ⟨b, hb⟩ => ⟨b, (hk8 0 (by omega)).trans hb⟩
      have hnx : ¬ ((nextOf σ' N : Nat) : Int) < (t : Int) := by have := hla8.next (n := N); omega
      have hT2 : nextOf σ' N ≤ 4294967296 := by have := nextOf_le hc8.tidy L6.out.pos; omega
      have S8 := Lib.hid (L6.out.beside hl8 st8 hc8)
      have L8 := Lib.hid hl8
      clear hl8 hc8 st8 hk8 hla8 L6 HF HLA
      generalize nextOf σ' N = t2 at *
      go_wp2_with fail
      refine L8.out.ticket.mono ?_
      rintro e w9 ⟨rfl, rfl⟩
      go_wp2_with fail
      refine S8.out.ticket.mono ?_
      rintro e w9 ⟨rfl, rfl⟩
      go_wp2_with fail
      go_loopw [89] (fun vk wr => ∃ k : Nat, vk = .int .i64 k ∧ k ≤ N ∧ Live7 w wr F' s gd D' 0 N t P σ' ∧ Live7 w wr F' s2 gd D' 0 N t2 P σ') (fun vk _ => N - (intOf vk).toNat)
      case atStart => exact ⟨0, rfl, Nat.zero_le _, S8.out, L8.out⟩
      case round =>
        obtain ⟨k, rfl, hk, hl1, hl2⟩ := hrel
        have S9 := Lib.hid hl1
        have L9 := Lib.hid hl2
        clear hl1 hl2 S8 L8
        by_cases hlt : k < N
        · have R1 := Lib.hid (S9.out.read hT9 hlt)
          go_wp2_with fail
          refine R1.out.mono ?_
          rintro e w10 ⟨rfl, hb10⟩
          have bq := hb10.alloc hb10.size (.cells #[.int .i64 (P k).1, .string (P k).2] 34)
          have S11 := Lib.hid (S9.out.more bq)
          have L11 := Lib.hid (L9.out.more bq)
          have Y11 := Blk.new w10 34 #[.int .i64 (P k).1, .string (P k).2]
          clear hb10 bq S9 L9 R1
          go_upto_region 18 with fail
          change Code.wp _ _ _ _ (w10.alloc (.cells #[.int .i64 (P k).1, .string (P k).2] 34))
          generalize w10.alloc (.cells #[.int .i64 (P k).1, .string (P k).2] 34) = w11 at *
          generalize w10.heap.size = y at *
          have R2 := Lib.hid (L11.out.read hT2 hlt)
          go_wp2_with fail
          refine R2.out.mono ?_
          rintro e w12 ⟨rfl, hb12⟩
          have bq := hb12.alloc hb12.size (.cells #[.int .i64 (P k).1, .string (P k).2] 34)
          have S13 := Lib.hid (S11.out.more bq)
          have L13 := Lib.hid (L11.out.more bq)
          have Y13 := (Y11.keep hb12 Y11.lt).alloc (.cells #[.int .i64 (P k).1, .string (P k).2] 34)
          have Z13 := Blk.new w12 34 #[.int .i64 (P k).1, .string (P k).2]
          clear hb12 bq S11 L11 R2 Y11
          go_upto_region 19 with fail
          change Code.wp _ _ _ _ (w12.alloc (.cells #[.int .i64 (P k).1, .string (P k).2] 34))
          generalize w12.alloc (.cells #[.int .i64 (P k).1, .string (P k).2] 34) = w13 at *
          generalize w12.heap.size = z at *
          have y0 : w13.cell? ⟨y, 0, none⟩ = some (.int .i64 (P k).1) := Y13.cell 0
          have y1 : w13.cell? ⟨y, 1, none⟩ = some (.string (P k).2) := Y13.cell 1
          have z0 : w13.cell? ⟨z, 0, none⟩ = some (.int .i64 (P k).1) := Z13.cell 0
          have z1 : w13.cell? ⟨z, 1, none⟩ = some (.string (P k).2) := Z13.cell 1
          clear Y13 Z13
          go_wp2_with (refine wp_page_unlike _ _ _ rfl rfl (P k).1 (P k).2 rfl rfl ?_)
          go_roundw
          case rel => exact ⟨k + 1, by go_num, by omega, S13.out, L13.out⟩
          case measure => simp [intOf]; omega
        · obtain rfl : k = N := by omega
          go_wp2
          go_ret
          exact ⟨rfl, S9.out.below⟩
end
theorem walkStoreOpens (n : Int) (v : Value) (ops : List Op7) (w : World) (_ : (Lit.int .i64 n).wf = true) (hv : IsOps7 w v ops) :
    Calls Try.prog 6 #[.int .i64 n, v] w fun e w' => e = .returned (.bool true) ∧ Below w.heap.size w w' := by
  by_cases h : isLong7 ops
  · exact storeOpens_early v ops n w hv h
  · exact storeOpens_go v ops n w hv h
end Go.Proofs.Ytpjkejgnnceanaa

/- careenlaw07.StoreOpens: it returns true for every input, and leaves its arguments as they were: the row's proof, out of the walk.
   Conditions: none beside the row's own (each argument is read as data). -/
namespace Go.Proofs.Ytpjkejgnnceanaa.storeOpens
open Go.ChangeShapes Go.WideShapes Go.ChangeAt Go.RowKit Go.Joins
open Go.ChangeMaps (open_string shut_string)
set_option linter.unusedVariables false

theorem own : ownKnob Try.prog.godebug = none := by kernel_rfl
theorem laidOut : laidOutB Try.prog = true := by kernel_rfl

set_option maxRecDepth 100000 in
theorem lifted (os : Os) (started : os.Started) (H : Type) (enc : TypeId × Value → H) :
    ReturnsInHanded {} Try.checked os 6 .any (Rows.storeOpensSpec.pre6 enc Try.prog Try.f6 Rows.storeOpensRow.domain false) (Rows.storeOpensSpec.post enc Try.prog Try.f6 false true false false) := by
  refine returnsInHanded_of_change (C := Try.checked) own started (by kernel_rfl) Try.func6
    (ChangeSpec.witness6 (enc := enc) (C := Try.checked) false ⟨#[], #[.int .i64 0, .slice none 0 0], []⟩ 8 (by kernel_rfl) (by kernel_rfl) (by kernel_rfl) (by kernel_rfl)) ?_
  intro W base args ds gs before hval0 hW hcnd _
  have hval : ∀ (j : Nat) t v, Try.f6.params[j]? = some t → args[j]? = some v → Value.okWide Try.prog W .any base t v := hval0
  have hW' := hW
  obtain ⟨p, q, hA0, hV, rfl, hfz, hnd⟩ := hW
  have hA : DataW.TrodAll enc Try.prog W 0 (fun _ => true) true Try.f6.params.toList args.toList ds p := hA0
  rw [Try.params6] at hA hval
  obtain ⟨v0, vs0, d0, ds0, p0, q0, hargs, rfl, rfl, h0, r0⟩ := trodAll_cons hA
  obtain ⟨v1, vs1, d1, ds1, p1, q1, rfl, rfl, rfl, h1, r1⟩ := trodAll_cons r0
  obtain ⟨rfl, rfl, rfl⟩ := trodAll_nil r1
  obtain rfl : args = #[v0, v1] := by cases args; simp_all
  obtain ⟨rfl, rfl⟩ := trodVars_none hV
  have k0 := h0
  have lt0 : ∀ x ∈ p0, x.block < W.heap.size := by obtain ⟨m, hm⟩ := k0; exact DataW.trod_lt m _ _ _ hm
  have k1 := h1
  have lt1 : ∀ x ∈ p1, x.block < W.heap.size := by obtain ⟨m, hm⟩ := k1; exact DataW.trod_lt m _ _ _ hm
  obtain ⟨a0, rfl, rfl, rfl, w0⟩ := open_int Try.underlying3 (hval 0 3 v0 rfl rfl) h0
  obtain ⟨a1, w1⟩ := open_ops7 (hval 1 22 v1 rfl rfl) h1
  clear hA0 hval0
  refine (walkStoreOpens a0 v1 a1 W w0 w1).mono fun e W' ⟨he, bel⟩ => ?_
  subst he
  exact ⟨_, rfl, _, _, _, [], _, [], hW', trodAll_mk1 (shut_bool Try.underlying4 _), (trodAll_cons_mk (Below.trod laidOut (by kernel_rfl) (of_decide_eq_true (by kernel_rfl)) k0 bel lt0) (trodAll_cons_mk (Below.trod laidOut (by kernel_rfl) (of_decide_eq_true (by kernel_rfl)) k1 bel lt1) trodAll_mk0)), rfl, bel.frame _, fun h => by cases h⟩

theorem over : Rows.storeOpensRow.holds Try.pinned (OpenSpec.ofChange Rows.storeOpensSpec) :=
  OpenClaim.holds_of_wide 6 Try.f6 rfl rfl rfl rfl rfl rfl rfl ⟨rfl, rfl, rfl, rfl, rfl⟩ rfl rfl rfl rfl rfl (by kernel_rfl) Try.func6 (by kernel_rfl)
    (of_decide_eq_true (by kernel_rfl)) (by unfold Func.isWrapper; first | (rw [if_pos (by decide +kernel)]; kernel_rfl) | (rw [if_neg (by decide +kernel)]; exact ⟨rfl, rfl⟩))
    (fun os started H enc _ => lifted os started H enc)

/-- The given statement. -/
theorem proved : Rows.StoreOpensSaid := over
end Go.Proofs.Ytpjkejgnnceanaa.storeOpens
