/- careenlaw07.StoreLast: it returns true for every input, and leaves its arguments as they were: the row's proof, out of the walk.
   Conditions: none beside the row's own (each argument is read as data). -/
import Derived.Test.YtpjkejgnnceanaaOpenL
import Derived.Test.YtpjkejgnnceanaaOpen
import Derived.Test.YtpjkejgnnceanaaJdisk
import Derived.Test.YtpjkejgnnceanaaJsoB
import Derived.Test.YtpjkejgnnceanaaUint
import Derived.Test.YtpjkejgnnceanaaJpg
import Derived.ProofKit
import Derived.OpenShut
import Derived.ShutString
import Derived.ChangeOld
import Derived.Below
import Derived.Lib.SmallJoins
/- careenlaw07: operations that came in; are there more than are played? -/
namespace Go.Proofs.Ytpjkejgnnceanaa
open Go.ChangeShapes Go.WideShapes Go.RowKit
set_option maxRecDepth 100000

theorem Reads.own {w : World} {v : Value} {vs : List Value} (h : Reads w v vs) (hn : vs ≠ []) : ∀ b, v.ownBlock = some b → b < w.heap.size := by
  rcases h.cases with ⟨rfl, _⟩ | ⟨b, off, cap, rfl, _, _, hb, _⟩
  · exact absurd rfl hn
  · intro b' hb'
    simp only [Value.ownBlock, Option.some.injEq] at hb'
    omega
structure Op7 where
  kind : Int
  i : Int
  n : Int
  at_ : Int
  data : ByteArray
  picks : List UInt8
def op7Cells (o : Op7) (pv : Value) : Array Value := #[.int .i64 o.kind, .int .i64 o.i, .int .i64 o.n, .int .i64 o.at_, .string o.data, pv]
structure Op7Wf (o : Op7) : Prop where
  kind : (Lit.int .i64 o.kind).wf = true
  i : (Lit.int .i64 o.i).wf = true
  n : (Lit.int .i64 o.n).wf = true
  at_ : (Lit.int .i64 o.at_).wf = true
  data : o.data.size ≤ maxLen
  picks : o.picks.length ≤ maxLen
def Op7Q (w : World) (cs : List Value) (o : Op7) : Prop := ∃ pv, cs = (op7Cells o pv).toList ∧ Reads w pv (byteVs o.picks) ∧ Op7Wf o
abbrev IsOps7 (w : World) (v : Value) (l : List Op7) : Prop := ListOf 6 Op7Q w v l
theorem Op7Q.keep {w w' : World} {cs : List Value} {o : Op7} (h : Op7Q w cs o) (hb : Below w.heap.size w w') : Op7Q w' cs o := by
  obtain ⟨pv, e, hr, hw⟩ := h
  exact ⟨pv, e, hr.keep hb, hw⟩
theorem IsOps7.keep {w w' : World} {v : Value} {l : List Op7} (h : IsOps7 w v l) (hb : Below w.heap.size w w') : IsOps7 w' v l := ListOf.keep h (fun _ _ hq => hq.keep hb) hb
theorem cellsOp7 : Try.prog.cellsOf 39 = 6 := by kernel_rfl
theorem cellsInt7 : Try.prog.cellsOf 3 = 1 := by kernel_rfl
theorem cellsByte7 : Try.prog.cellsOf 5 = 1 := by kernel_rfl
theorem cellsStr7 : Try.prog.cellsOf 9 = 1 := by kernel_rfl
theorem cellsPage7 : Try.prog.cellsOf 34 = 2 := by kernel_rfl
theorem cellsPicks7 : Try.prog.cellsOf 37 = 1 := by kernel_rfl
theorem read_op7 {H : Type} {enc : TypeId × Value → H} {W : World} {n : Nat} {cs : List Value} {y : DataW H × List MemPlace} (hcl : cs.length = 6) (h : DataW.trod enc Try.prog W 0 (fun _ => true) true n 39 cs = some y) : ∃ o : Op7, Op7Q W cs o := by
  obtain ⟨xs, k, _, _, _, hxl, hg⟩ := DataW.trod_struct Try.underlying39 h
  match cs, hcl with
  | [x0, x1, x2, x3, x4, x5], _ =>
    match xs, hxl with
    | [y0, y1, y2, y3, y4], _ =>
      have g0 : DataW.trod enc Try.prog W 0 (fun _ => true) true k 3 (([x0, x1, x2, x3, x4, x5].drop 0).take (Try.prog.cellsOf 3)) = [y0, y1, y2, y3, y4][0]? := hg 0 _ rfl
      have g1 : DataW.trod enc Try.prog W 0 (fun _ => true) true k 3 (([x0, x1, x2, x3, x4, x5].drop 1).take (Try.prog.cellsOf 3)) = [y0, y1, y2, y3, y4][1]? := hg 1 _ rfl
      have g2 : DataW.trod enc Try.prog W 0 (fun _ => true) true k 3 (([x0, x1, x2, x3, x4, x5].drop 2).take (Try.prog.cellsOf 3)) = [y0, y1, y2, y3, y4][2]? := hg 2 _ rfl
      have g3 : DataW.trod enc Try.prog W 0 (fun _ => true) true k 34 (([x0, x1, x2, x3, x4, x5].drop 3).take (Try.prog.cellsOf 34)) = [y0, y1, y2, y3, y4][3]? := hg 3 _ rfl
      have g4 : DataW.trod enc Try.prog W 0 (fun _ => true) true k 37 (([x0, x1, x2, x3, x4, x5].drop 5).take (Try.prog.cellsOf 37)) = [y0, y1, y2, y3, y4][4]? := hg 4 _ rfl
      simp only [cellsInt7, cellsPage7, cellsPicks7, List.drop_zero, List.drop_succ_cons, List.take_succ_cons, List.take_zero, List.getElem?_cons_zero, List.getElem?_cons_succ] at g0 g1 g2 g3 g4
      obtain ⟨z0, e0, _, w0⟩ := DataW.trod_int Try.underlying3 g0
      obtain ⟨z1, e1, _, w1⟩ := DataW.trod_int Try.underlying3 g1
      obtain ⟨z2, e2, _, w2⟩ := DataW.trod_int Try.underlying3 g2
      obtain ⟨v5, l5, e5, r5, h5⟩ := reads_bytes Try.underlying37 Try.underlying5 cellsByte7 g4
      obtain ⟨ps, k2, _, _, _, hpl, hp⟩ := DataW.trod_struct Try.underlying34 g3
      match ps, hpl with
      | [p0, p1], _ =>
        have q0 : DataW.trod enc Try.prog W 0 (fun _ => true) true k2 3 (([x3, x4].drop 0).take (Try.prog.cellsOf 3)) = [p0, p1][0]? := hp 0 _ rfl
        have q1 : DataW.trod enc Try.prog W 0 (fun _ => true) true k2 9 (([x3, x4].drop 1).take (Try.prog.cellsOf 9)) = [p0, p1][1]? := hp 1 _ rfl
        simp only [cellsInt7, cellsStr7, List.drop_zero, List.drop_succ_cons, List.take_succ_cons, List.take_zero, List.getElem?_cons_zero, List.getElem?_cons_succ] at q0 q1
        obtain ⟨z3, e3, _, w3⟩ := DataW.trod_int Try.underlying3 q0
        obtain ⟨z4, e4, _, w4⟩ := DataW.trod_string Try.underlying9 q1
        simp only [List.cons.injEq, and_true] at e0 e1 e2 e3 e4 e5
        subst e0 e1 e2 e3 e4 e5
        exact ⟨⟨z0, z1, z2, z3, z4, l5⟩, x5, rfl, r5, ⟨w0, w1, w2, w3, w4, h5⟩⟩
theorem open_ops7 {H : Type} {enc : TypeId × Value → H} {W : World} {b0 : Nat} {r : Reach} {v : Value} {d : DataW H} {p : List MemPlace} (hval : Value.okWide Try.prog W r b0 22 v) (h : DataW.Trod enc Try.prog W 0 (fun _ => true) true 22 v d p) :
    ∃ l, IsOps7 W v l :=
  haveI : Inhabited Op7 := ⟨⟨0, 0, 0, 0, ⟨#[]⟩, []⟩⟩
  open_list Try.underlying22 6 (by decide) cellsOp7 hval h Op7Q fun _ _ _ hcl ht => read_op7 hcl ht
/-- An operation in cells behind one another. -/
structure Op7At (w : World) (b o : Nat) (x : Op7) (pv : Value) : Prop where
  c0 : w.cell? ⟨b, o, none⟩ = some (.int .i64 x.kind)
  c1 : w.cell? ⟨b, o + 1, none⟩ = some (.int .i64 x.i)
  c2 : w.cell? ⟨b, o + 2, none⟩ = some (.int .i64 x.n)
  c3 : w.cell? ⟨b, o + 3, none⟩ = some (.int .i64 x.at_)
  c4 : w.cell? ⟨b, o + 4, none⟩ = some (.string x.data)
  c5 : w.cell? ⟨b, o + 5, none⟩ = some pv
theorem Op7At.mk' {w : World} {b o : Nat} {x : Op7} {pv : Value} (h : ∀ i u, (op7Cells x pv)[i]? = some u → w.cell? ⟨b, o + i, none⟩ = some u) : Op7At w b o x pv :=
  ⟨h 0 _ rfl, h 1 _ rfl, h 2 _ rfl, h 3 _ rfl, h 4 _ rfl, h 5 _ rfl⟩
theorem Op7At.keep {w w' : World} {b o : Nat} {x : Op7} {pv : Value} (h : Op7At w b o x pv) (hb : Below w.heap.size w w') : Op7At w' b o x pv := by
  have hlt := World.block_lt_of_cell? w ⟨b, o, none⟩ h.c0
  have k : ∀ x, w'.cell? ⟨b, x, none⟩ = w.cell? ⟨b, x, none⟩ := fun x => hb.cell (p := ⟨b, x, none⟩) hlt
  exact ⟨(k _).trans h.c0, (k _).trans h.c1, (k _).trans h.c2, (k _).trans h.c3, (k _).trans h.c4, (k _).trans h.c5⟩
theorem IsOps7.at_ {w : World} {v : Value} {l : List Op7} (h : IsOps7 w v l) (hl : 0 < l.length) : ∃ b off cap, v = .slice (some ⟨b, off, none⟩) l.length cap ∧ l.length ≤ cap ∧ cap ≤ maxLen ∧ b < w.heap.size ∧
    ∀ j (hj : j < l.length), ∃ ka kc, Reads w (.slice ka l[j].picks.length kc) (byteVs l[j].picks) ∧ Op7Wf l[j] ∧ (l[j].picks ≠ [] → ∀ b, (Value.slice ka l[j].picks.length kc).ownBlock = some b → b < w.heap.size) ∧ Op7At w b (off + j * 6) l[j] (.slice ka l[j].picks.length kc) := by
  rcases h.cases with ⟨rfl, _⟩ | ⟨b, off, cap, rfl, _, h2, h3, h4, h5⟩
  · simp at hl
  refine ⟨b, off, cap, rfl, h2, h3, h4, fun j hj => ?_⟩
  obtain ⟨cs, ⟨pv, rfl, hr, hw⟩, hc⟩ := h5 j hj
  have hw2 : l[j].picks ≠ [] → ∀ b, pv.ownBlock = some b → b < w.heap.size := fun hp => hr.own (by intro e; apply hp; have := congrArg List.length e; simp [byteVs] at this; exact this)
  have hr2 := hr
  obtain ⟨ka, kc, e'', _⟩ := hr2
  rw [show (byteVs l[j].picks).length = l[j].picks.length by simp [byteVs]] at e''
  subst e''
  exact ⟨ka, kc, hr, hw, hw2, .mk' fun i u hu => hc i u (by rw [Array.getElem?_toList]; exact hu)⟩

def isLong7 (ops : List Op7) : Prop := (∃ o ∈ ops, 500 < o.data.size ∨ 200 < o.picks.length) ∨ 200 < ops.length
/-- The variable's cells, spelled as the walk spells them. -/
def op7Zero : Array Value := #[.int .i64 0, .int .i64 0, .int .i64 0, .int .i64 0, .string ⟨#[]⟩, .slice none 0 0]
set_option maxHeartbeats 16000000 in
theorem long7_any (v : Value) (ops : List Op7) (w : World) (hr : IsOps7 w v ops) (yes : Bool) (hy : yes = true ↔ isLong7 ops) :
    Calls Try.prog 10 #[v] w fun e w' => e = .returned (.bool yes) ∧ Below w.heap.size w w' := by
  have HV := Lib.hid hr
  obtain ⟨a, cap, rfl, h1, h2, _⟩ := hr
  have hm : (ops.length : Int) ≤ 9223372036854775807 := by unfold maxLen at h2; omega
  have HY := Lib.hid hy
  clear h1 h2 hy
  go_enter Try.func10, Try.ntmps10
  go_wp2_with fail
  go_loopw [7] (fun vk wr => ∃ k : Nat, vk = .int .i64 k ∧ k ≤ ops.length ∧ Below w.heap.size w wr ∧ ∀ o ∈ ops.take k, ¬ 500 < o.data.size ∧ ¬ 200 < o.picks.length) (fun vk _ => ops.length - (intOf vk).toNat)
  case atStart => exact ⟨0, rfl, Nat.zero_le _, Below.refl _ _, fun o ho => by simp at ho⟩
  case round =>
    obtain ⟨k, rfl, hk, hB, hall⟩ := hrel
    have HB := Lib.hid hB
    have HALL := Lib.hid hall
    clear hB hall
    by_cases hlt : k < ops.length
    · obtain ⟨b, off, cap', hva, _, _, hbw, hel⟩ := HV.out.at_ (by omega)
      cases hva
      obtain ⟨ka, kc, hrd, hwf, _, hc⟩ := hel k hlt
      have HIN : Hid (ops[k] ∈ ops) := List.getElem_mem hlt
      have HTK : Hid (ops.take (k + 1) = ops.take k ++ [ops[k]]) := by unfold Hid; rw [List.take_succ_eq_append_getElem hlt]
      have hp : (ops[k].picks.length : Int) ≤ 9223372036854775807 := by have := hwf.picks; unfold maxLen at this; omega
      have hd : (ops[k].data.size : Int) ≤ 9223372036854775807 := by have := hwf.data; unfold maxLen at this; omega
      obtain ⟨c0, c1, c2, c3, c4, c5⟩ := hc.keep HB.out
      clear hel hc hrd hwf
      generalize ops[k] = o at *
      have hn := Blk.new wr 39 op7Zero
      have N3 := hn.setRow (op7Cells o (.slice ka o.picks.length kc))
      have hb3 : Below wr.heap.size wr ((wr.alloc (.cells op7Zero 39)).setRow wr.heap.size (op7Cells o (.slice ka o.picks.length kc))) := below_setRow ((Below.refl _ _).alloc (Nat.le_refl _) _) (Nat.le_refl _) _
      have HB3 := Lib.hid (below2 HB.out hb3)
      go_upto_region 4 with (refine wpList_store_row rfl 39 _ _ rfl wr.heap.size _ rfl rfl 39 _ hn (by kernel_rfl) rfl (by simp [Value.oneCell']) ?_)
      clear hn hb3 c0 c1 c2 c3 c4 c5 HB hbw
      change Code.wp _ _ _ _ ((wr.alloc (.cells op7Zero 39)).setRow wr.heap.size (op7Cells o (.slice ka o.picks.length kc)))
      generalize (wr.alloc (.cells op7Zero 39)).setRow wr.heap.size (op7Cells o (.slice ka o.picks.length kc)) = w3 at *
      generalize wr.heap.size = x at *
      have d4 : w3.cell? ⟨x, 4, none⟩ = some (.string o.data) := N3.cell 4
      have d5 : w3.cell? ⟨x, 5, none⟩ = some (.slice ka o.picks.length kc) := N3.cell 5
      clear N3
      by_cases hf : 500 < o.data.size
      · have hf2 : (500 : Int) < o.data.size := by omega
        have hyes : yes = true := HY.out.2 (.inl ⟨o, HIN.out, .inl hf⟩)
        clear hf
        go_wp2
        go_ret
        exact ⟨by first | rfl | (rw [hyes]; rfl), HB3.out⟩
      · have hf2 : ¬ (500 : Int) < o.data.size := by omega
        by_cases hp2 : 200 < o.picks.length
        · have hp3 : (200 : Int) < o.picks.length := by omega
          have hyes : yes = true := HY.out.2 (.inl ⟨o, HIN.out, .inr hp2⟩)
          clear hf hp2
          go_wp2
          go_ret
          exact ⟨by first | rfl | (rw [hyes]; rfl), HB3.out⟩
        · have hp3 : ¬ (200 : Int) < o.picks.length := by omega
          have HALL2 : Hid (∀ q ∈ ops.take (k + 1), ¬ 500 < q.data.size ∧ ¬ 200 < q.picks.length) := fun q hq => by
            rw [HTK.out] at hq
            rcases List.mem_append.1 hq with hq | hq
            · exact HALL.out q hq
            · simp at hq; subst hq; exact ⟨hf, hp2⟩
          clear HALL hp2 hf
          go_wp2
          go_roundw
          case rel => exact ⟨k + 1, by go_num, by omega, HB3.out, HALL2.out⟩
          case measure => simp [intOf]; omega
    · obtain rfl : k = ops.length := by omega
      have hyes : yes = decide ((200 : Int) < ops.length) := by
        have hall := HALL.out
        rw [List.take_length] at hall
        have h2 : isLong7 ops ↔ (200 : Int) < ops.length := by
          unfold isLong7
          constructor
          · rintro (⟨o, ho, h⟩ | h)
            · have := hall o ho
              rcases h with h | h
              · exact absurd h this.1
              · exact absurd h this.2
            · omega
          · intro h; exact .inr (by omega)
        by_cases h : (200 : Int) < ops.length
        · rw [decide_eq_true h]; exact HY.out.2 (h2.2 h)
        · rw [decide_eq_false h]
          cases hyy : yes with
          | true => exact absurd (h2.1 (HY.out.1 hyy)) h
          | false => rfl
      go_wp2
      go_ret
      exact ⟨by rw [hyes]; rfl, HB.out⟩
end Go.Proofs.Ytpjkejgnnceanaa

/- careenlaw07.StoreLast, walked. -/
namespace Go.Proofs.Ytpjkejgnnceanaa
open Go.RowKit

section
set_option maxRecDepth 100000
variable (v : Value) (ops : List Op7) (i j a : Int) (d : ByteArray) (w : World) (hv : IsOps7 w v ops)
include hv
set_option maxHeartbeats 8000000 in
theorem storeLast_early (hd : d.size ≤ maxLen) (h : isLong7 ops ∨ 500 < d.size ∨ ¬ PgOk a d) :
    Calls Try.prog 5 #[v, .int .i64 i, .int .i64 j, .agg #[.int .i64 a, .string d]] w fun e w' => e = .returned (.bool true) ∧ Below w.heap.size w w' := by
  have hI : Hid (wrap64 ((IntKind.u64.wrap i).tmod 4) = (modN i 4 : Int)) := modN_eq i 4 (by omega) (by omega)
  have hJ : Hid (wrap64 ((IntKind.u64.wrap j).tmod 4) = (modN j 4 : Int)) := modN_eq j 4 (by omega) (by omega)
  have hm : (d.size : Int) ≤ 9223372036854775807 := by unfold maxLen at hd; omega
  have HV := Lib.hid hv
  have HH := Lib.hid h
  clear hv hd h
  generalize modN i 4 = I at *
  generalize modN j 4 = J at *
  have X0 := Blk.new w 34 #[.int .i64 a, .string d]
  have B0 := (Below.refl w.heap.size w).alloc (Nat.le_refl _) (.cells #[.int .i64 a, .string d] 34)
  go_enter Try.func5, Try.ntmps5
  go_upto_region 1 with fail
  change Code.wp _ _ _ _ (w.alloc (.cells #[.int .i64 a, .string d] 34))
  generalize w.alloc (.cells #[.int .i64 a, .string d] 34) = w0 at *
  go_wp2_with fail
  refine (soSectors_any 4 (by omega) _).mono ?_
  rintro e w1 ⟨rfl, rfl⟩
  go_wp2_with fail
  refine (new_ok 11 _ (by omega) (by omega)).mono ?_
  rintro e w1 ⟨gd, FD, rfl, hd, hFD, hb1⟩
  have X1 := X0.keep hb1 X0.lt
  have B1 := below2 B0 hb1
  go_wp2_with fail
  refine (Live7.make (w0 := w0) (base := 0) (n := 4) hd hFD hb1 (by omega) (by omega)).mono ?_
  rintro e w2 ⟨s, rfl, hl, hb2⟩
  have X2 := X1.keep hb2 X1.lt
  have B2 := below2 B1 hb2
  clear X0 X1 B0 B1 hb1 hb2 hd hFD hl
  go_wp2_with fail
  rw [hI.out, hJ.out]
  go_wp2_with fail
  refine (awake7 _).mono ?_
  rintro e w3 ⟨rfl, hb3⟩
  have X3 := X2.keep hb3 X2.lt
  have B3 := below2 B2 hb3
  clear X2 B2 hb3
  by_cases hl : isLong7 ops
  · go_wp2_with fail
    refine (long7_any v ops _ (HV.out.keep B3) true (by simp [hl])).mono ?_
    rintro e w4 ⟨rfl, hb4⟩
    have B4 := below2 B3 hb4
    clear B3 hb4 X3
    go_wp2_with fail
    refine (awake7 _).mono ?_
    rintro e w6 ⟨rfl, hb6⟩
    have B6 := Lib.hid (below2 B4 hb6)
    clear hb6
    go_wp2
    go_ret
    exact ⟨rfl, B6.out⟩
  · have LG := Lib.hid (long7_any v ops _ (HV.out.keep B3) false (by simp [hl]))
    go_wp2_with fail
    refine LG.out.mono ?_
    rintro e w4 ⟨rfl, hb4⟩
    have B4 := below2 B3 hb4
    have X4 := X3.keep hb4 X3.lt
    have k0 : w4.cell? ⟨w.heap.size, 0, none⟩ = some (.int .i64 a) := X4.cell 0
    have k1 : w4.cell? ⟨w.heap.size, 1, none⟩ = some (.string d) := X4.cell 1
    clear B3 hb4 X3 LG
    by_cases h5 : (500 : Int) < d.size
    · clear X4 HH
      go_wp2_with fail
      refine (awake7 _).mono ?_
      rintro e w6 ⟨rfl, hb6⟩
      have B6 := Lib.hid (below2 B4 hb6)
      clear hb6
      go_wp2
      go_ret
      exact ⟨rfl, B6.out⟩
    · have hp : ¬ PgOk a d := by rcases HH.out with h | h | h; exact absurd h hl; omega; exact h
      have HP := Lib.hid (fun W => pgRefRight_any (a := a) (d := d) (w := W) false (by simp [hp]))
      clear X4 HH hp
      go_wp2_with fail
      refine (HP.out _).mono ?_
      rintro e w5 ⟨rfl, hb5⟩
      have B5 := below2 B4 hb5
      clear B4 hb5 k0 k1
      go_wp2_with fail
      refine (awake7 _).mono ?_
      rintro e w6 ⟨rfl, hb6⟩
      have B6 := Lib.hid (below2 B5 hb6)
      clear hb6
      go_wp2
      go_ret
      exact ⟨rfl, B6.out⟩
set_option maxHeartbeats 16000000 in
theorem storeLast_go (h : ¬ (isLong7 ops ∨ 500 < d.size ∨ ¬ PgOk a d)) :
    Calls Try.prog 5 #[v, .int .i64 i, .int .i64 j, .agg #[.int .i64 a, .string d]] w fun e w' => e = .returned (.bool true) ∧ Below w.heap.size w w' := by
  have hI : Hid (wrap64 ((IntKind.u64.wrap i).tmod 4) = (modN i 4 : Int)) := modN_eq i 4 (by omega) (by omega)
  have hJ : Hid (wrap64 ((IntKind.u64.wrap j).tmod 4) = (modN j 4 : Int)) := modN_eq j 4 (by omega) (by omega)
  have hIl : modN i 4 < 4 := by have := modN_lt i 4 (by omega); omega
  have hJl : modN j 4 < 4 := by have := modN_lt j 4 (by omega); omega
  have hP : PgOk a d := Classical.byContradiction fun hp => h (.inr (.inr hp))
  have hL : ¬ isLong7 ops := fun hl => h (.inl hl)
  have h5 : ¬ (500 : Int) < d.size := fun h5 => h (.inr (.inl (by omega)))
  have h200 : ops.length ≤ 200 := Classical.byContradiction fun hn => hL (.inr (by omega))
  have hops : (ops.length : Int) ≤ 200 := by omega
  have HV := Lib.hid hv
  clear hv h
  generalize modN i 4 = I at *
  generalize modN j 4 = J at *
  have X0 := Blk.new w 34 #[.int .i64 a, .string d]
  have B0 := (Below.refl w.heap.size w).alloc (Nat.le_refl _) (.cells #[.int .i64 a, .string d] 34)
  go_enter Try.func5, Try.ntmps5
  go_upto_region 1 with fail
  change Code.wp _ _ _ _ (w.alloc (.cells #[.int .i64 a, .string d] 34))
  generalize w.alloc (.cells #[.int .i64 a, .string d] 34) = w0 at *
  have PX : Hid (∀ W F s gd D base n t P σ, Live7 w0 W F s gd D base n t P σ → Below w.heap.size w W ∧ Blk W w.heap.size 34 #[.int .i64 a, .string d] ∧ W.cell? ⟨w.heap.size, 0, none⟩ = some (.int .i64 a) ∧ W.cell? ⟨w.heap.size, 1, none⟩ = some (.string d)) := fun W F s gd D base n t P σ hl => by
    have x := X0.keep hl.below X0.lt
    exact ⟨below2 B0 hl.below, x, x.cell 0, x.cell 1⟩
  clear X0 B0
  go_wp2_with fail
  refine (soSectors_any 4 (by omega) _).mono ?_
  rintro e w1 ⟨rfl, rfl⟩
  go_wp2_with fail
  refine (new_ok 11 _ (by omega) (by omega)).mono ?_
  rintro e w1 ⟨gd, FD, rfl, hd, hFD, hb1⟩
  have HD := Lib.hid hd
  have HFD := Lib.hid hFD
  have HB1 := Lib.hid hb1
  clear hd hFD hb1
  go_wp2_with fail
  refine (Live7.make (w0 := w0) (base := 0) (n := 4) HD.out HFD.out HB1.out (by omega) (by omega)).mono ?_
  rintro e w2 ⟨s, rfl, hl, -⟩
  have L2 := Lib.hid hl
  clear hl HD HFD HB1
  go_wp2_with fail
  rw [hI.out, hJ.out]
  go_wp2_with fail
  refine (awake7 _).mono ?_
  rintro e w3 ⟨rfl, hb3⟩
  have L3 := Lib.hid (L2.out.more hb3)
  clear hb3 L2
  have LG := Lib.hid (long7_any v ops _ (HV.out.keep (PX.out _ _ _ _ _ _ _ _ _ _ L3.out).1) false (by simp [hL]))
  go_wp2_with fail
  refine LG.out.mono ?_
  rintro e w4 ⟨rfl, hb4⟩
  have L4 := Lib.hid (L3.out.more hb4)
  clear hb4 LG L3
  obtain ⟨-, -, k0, k1⟩ := PX.out _ _ _ _ _ _ _ _ _ _ L4.out
  have HP := Lib.hid (fun W => pgRefRight_any (a := a) (d := d) (w := W) true (by simp [hP]))
  go_wp2_with fail
  refine (HP.out _).mono ?_
  rintro e w5 ⟨rfl, hb5⟩
  have L5 := Lib.hid (L4.out.more hb5)
  have HPK := Lib.hid hP
  clear hb5 k0 k1 HP hP L4
  have HV2 := Lib.hid HV.out
  obtain ⟨a0, cap, rfl, -⟩ := HV.out
  go_wp2_with fail
  go_loopw [68] (fun vk wr => ∃ (k : Nat) (F : Foot) (D : Dk) (t : Nat) (P : Nat → Pag) (σ : Sg), vk = .int .i64 k ∧ k ≤ ops.length ∧ Live7 w0 wr F s gd D 0 4 t P σ ∧ D.fuse = none ∧ t ≤ k + 1) (fun vk _ => ops.length - (intOf vk).toNat)
  case atStart => exact ⟨0, FD, _, 1, _, _, rfl, Nat.zero_le _, L5.out, rfl, Nat.le_refl _⟩
  case round =>
    obtain ⟨k, F, D, t, P, σ, rfl, hk, hl, hf, ht⟩ := hrel
    have L6 := Lib.hid hl
    have HF := Lib.hid hf
    have HT := Lib.hid ht
    clear hl hf ht L5
    by_cases hlt : k < ops.length
    · obtain ⟨b, off, cap', hva, _, _, hbw, hel⟩ := HV2.out.at_ (by omega)
      cases hva
      obtain ⟨ka, kc, -, -, -, hc⟩ := hel k hlt
      obtain ⟨c0, c1, c2, c3, c4, c5⟩ := hc.keep (PX.out _ _ _ _ _ _ _ _ _ _ L6.out).1
      have hM : Hid (wrap64 ((IntKind.u64.wrap ops[k].i).tmod 4) = (modN ops[k].i 4 : Int)) := modN_eq _ 4 (by omega) (by omega)
      have hMl : Hid (modN ops[k].i 4 < 4) := show modN ops[k].i 4 < 4 by have := modN_lt ops[k].i 4 (by omega); omega
      clear hel hc
      generalize ops[k] = o at *
      generalize modN o.i 4 = M at *
      have hn := Blk.new wr 39 op7Zero
      have N3 := hn.setRow (op7Cells o (.slice ka o.picks.length kc))
      have hb3 : Below wr.heap.size wr ((wr.alloc (.cells op7Zero 39)).setRow wr.heap.size (op7Cells o (.slice ka o.picks.length kc))) := below_setRow ((Below.refl _ _).alloc (Nat.le_refl _) _) (Nat.le_refl _) _
      have L7 := Lib.hid (L6.out.more hb3)
      go_upto_region 9 with (refine wpList_store_row rfl 39 _ _ rfl wr.heap.size _ rfl rfl 39 _ hn (by kernel_rfl) rfl (by simp [Value.oneCell']) ?_)
      clear hn hb3 c0 c1 c2 c3 c4 c5 L6 hbw
      change Code.wp _ _ _ _ ((wr.alloc (.cells op7Zero 39)).setRow wr.heap.size (op7Cells o (.slice ka o.picks.length kc)))
      generalize (wr.alloc (.cells op7Zero 39)).setRow wr.heap.size (op7Cells o (.slice ka o.picks.length kc)) = w7 at *
      generalize wr.heap.size = x at *
      have d1 : w7.cell? ⟨x, 1, none⟩ = some (.int .i64 o.i) := N3.cell 1
      have d3 : w7.cell? ⟨x, 3, none⟩ = some (.int .i64 o.at_) := N3.cell 3
      have d4 : w7.cell? ⟨x, 4, none⟩ = some (.string o.data) := N3.cell 4
      clear N3
      have WR : Hid (Calls Try.prog 13 #[.pointer (some ⟨s, 0, none⟩), .int .i64 M, .agg #[.int .i64 o.at_, .string o.data]] w7 fun e w' => ∃ r F' D' t' P' σ', e = .returned (.int .i64 r) ∧ Live7 w0 w' F' s gd D' 0 4 t' P' σ' ∧ D'.fuse = none ∧ t' ≤ k + 1 + 1) := by
        by_cases hp : PgOk o.at_ o.data
        · exact (L7.out.write (by have := HT.out; omega) hMl.out (p := (o.at_, o.data)) hp (fun m hm => by rw [HF.out] at hm; cases hm)).mono fun _ _ ⟨he, F', D', σ', hl, _, hf, _⟩ => ⟨0, F', D', _, _, σ', he, hl, by rw [hf, HF.out]; rfl, by have := HT.out; omega⟩
        · exact (L7.out.form hMl.out hp).mono fun _ _ ⟨he, F', hl, _⟩ => ⟨3, F', D, _, _, σ, he, hl, HF.out, by have := HT.out; omega⟩
      clear L7 HF HT hMl
      go_wp2_with fail
      rw [hM.out]
      go_wp2_with fail
      refine WR.out.mono ?_
      rintro e w8 ⟨r, F', D', t', P', σ', rfl, hl, hf, ht⟩
      have L8 := Lib.hid hl
      have HF8 := Lib.hid hf
      have HT8 := Lib.hid ht
      clear hl hf ht WR d1 d3 d4
      go_wp2_with fail
      go_roundw
      case rel => exact ⟨k + 1, F', D', t', P', σ', by go_num, by omega, L8.out, HF8.out, HT8.out⟩
      case measure => simp [intOf]; omega
    · have hk2 : t ≤ 201 := by have := HT.out; omega
      have hk3 : (t : Int) ≤ 201 := by omega
      obtain rfl : k = ops.length := by omega
      clear HV HV2 HT hk
      have R1 := Lib.hid (L6.out.read (by omega) hJl)
      go_wp2_with fail
      refine R1.out.mono ?_
      rintro e w7 ⟨rfl, hb7⟩
      have L8 := Lib.hid (L6.out.more (hb7.alloc hb7.size (.cells #[.int .i64 (P J).1, .string (P J).2] 34)))
      have y8 := Blk.new w7 34 #[.int .i64 (P J).1, .string (P J).2]
      have HY : Hid (¬ F w7.heap.size) := fun hb => by have := (L6.out.sto.disk.below hb7).lt _ hb; omega
      have HYs : Hid (¬ w7.heap.size = s) := fun hb => by have := (L6.out.sto.below hb7).head.lt; omega
      clear hb7 L6 R1
      go_upto_region 12 with fail
      change Code.wp _ _ _ _ (w7.alloc (.cells #[.int .i64 (P J).1, .string (P J).2] 34))
      generalize w7.alloc (.cells #[.int .i64 (P J).1, .string (P J).2] 34) = w8 at *
      generalize w7.heap.size = y at *
      have Y8 := Lib.hid y8
      clear y8
      go_wp2_with fail
      refine L8.out.ticket.mono ?_
      rintro e w9 ⟨rfl, rfl⟩
      obtain ⟨-, -, k0, k1⟩ := PX.out _ _ _ _ _ _ _ _ _ _ L8.out
      have WR := Lib.hid (L8.out.write (by omega) (i := I) (p := (a, d)) hIl HPK.out (fun m hm => by rw [HF.out] at hm; cases hm))
      have HO : Hid (¬ OfS F s y) := fun hb => by
        have := hb.elim (L8.out.sto.disk.lt y) fun e => e ▸ L8.out.sto.head.lt
        have := Y8.out.lt
        rcases hb with hb | hb
        · exact HY.out hb
        · exact HYs.out hb
      go_wp2_with fail
      refine WR.out.mono ?_
      rintro e w9 ⟨rfl, F', D', σ', hl9, st9, hf9, -⟩
      have L9 := Lib.hid hl9
      have Y9 : Blk w9 y 34 #[.int .i64 (P J).1, .string (P J).2] := (st9.block y Y8.out.lt HO.out).trans Y8.out
      clear hl9 st9 hf9 WR L8 Y8 k0 k1 HO HY HYs
      have hw1 : IntKind.wrap .i64 ((t : Int) + 1) = (t : Int) + 1 := by rw [IntKind.wrap_i64]; omega
      have ht1 : ((t + 1 : Nat) : Int) = (t : Int) + 1 := by omega
      have TK := Lib.hid L9.out.ticket
      rw [ht1] at TK
      clear ht1
      go_wp2_with fail
      refine TK.out.mono ?_
      rintro e w10 ⟨rfl, rfl⟩
      have R2 := Lib.hid (L9.out.read (by omega) hIl)
      rw [putP_same] at R2
      go_wp2_with fail
      refine R2.out.mono ?_
      rintro e w10 ⟨rfl, hb10⟩
      have L11 := Lib.hid (L9.out.more (hb10.alloc hb10.size (.cells #[.int .i64 a, .string d] 34)))
      have Y11 := (Y9.keep hb10 Y9.lt).alloc (.cells #[.int .i64 a, .string d] 34)
      have Z11 := Blk.new w10 34 #[.int .i64 a, .string d]
      clear hb10 L9 R2 Y9 TK
      go_upto_region 16 with fail
      change Code.wp _ _ _ _ (w10.alloc (.cells #[.int .i64 a, .string d] 34))
      generalize w10.alloc (.cells #[.int .i64 a, .string d] 34) = w11 at *
      generalize w10.heap.size = z at *
      have R3 := Lib.hid (L11.out.read (by omega) hJl)
      generalize hq : putP P I (a, d) J = q at *
      obtain ⟨qa, qd⟩ := q
      simp only at R3
      go_wp2_with fail
      refine R3.out.mono ?_
      rintro e w12 ⟨rfl, hb12⟩
      have L13 := Lib.hid (L11.out.more (hb12.alloc hb12.size (.cells #[.int .i64 qa, .string qd] 34)))
      have Y13 := (Y11.keep hb12 Y11.lt).alloc (.cells #[.int .i64 qa, .string qd] 34)
      have Z13 := (Z11.keep hb12 Z11.lt).alloc (.cells #[.int .i64 qa, .string qd] 34)
      have V13 := Blk.new w12 34 #[.int .i64 qa, .string qd]
      clear hb12 L11 R3 Y11 Z11
      go_upto_region 17 with fail
      change Code.wp _ _ _ _ (w12.alloc (.cells #[.int .i64 qa, .string qd] 34))
      generalize w12.alloc (.cells #[.int .i64 qa, .string qd] 34) = w13 at *
      generalize w12.heap.size = u at *
      obtain ⟨BB0, -, k0, k1⟩ := PX.out _ _ _ _ _ _ _ _ _ _ L13.out
      have BB := Lib.hid BB0
      have y0 : w13.cell? ⟨y, 0, none⟩ = some (.int .i64 (P J).1) := Y13.cell 0
      have y1 : w13.cell? ⟨y, 1, none⟩ = some (.string (P J).2) := Y13.cell 1
      have z0 : w13.cell? ⟨z, 0, none⟩ = some (.int .i64 a) := Z13.cell 0
      have z1 : w13.cell? ⟨z, 1, none⟩ = some (.string d) := Z13.cell 1
      have v0 : w13.cell? ⟨u, 0, none⟩ = some (.int .i64 qa) := V13.cell 0
      have v1 : w13.cell? ⟨u, 1, none⟩ = some (.string qd) := V13.cell 1
      clear BB0 Y13 Z13 V13 L13 PX
      by_cases hIJ : I = J
      · have hb : ((I : Int) == (J : Int)) = true := by simp [hIJ]
        clear hq
        subst hIJ
        go_wp2_with (refine wp_page_same _ _ _ rfl rfl a d rfl rfl ?_)
        go_ret
        exact ⟨rfl, BB.out⟩
      · have hb : ((I : Int) == (J : Int)) = false := by simp; omega
        rw [putP_other _ _ (fun h => hIJ h.symm)] at hq
        rw [hq] at y0 y1
        simp only at y0 y1
        clear hq
        go_wp2_with (first
          | (refine wp_page_same _ _ _ rfl rfl a d rfl rfl ?_)
          | (refine wp_page_same _ _ _ rfl rfl qa qd rfl rfl ?_))
        go_ret
        exact ⟨rfl, BB.out⟩
end
theorem walkStoreLast (v : Value) (ops : List Op7) (i j a : Int) (d : ByteArray) (w : World) (hv : IsOps7 w v ops) (_ : (Lit.int .i64 i).wf = true) (_ : (Lit.int .i64 j).wf = true) (_ : (Lit.int .i64 a).wf = true) (hd : d.size ≤ maxLen) :
    Calls Try.prog 5 #[v, .int .i64 i, .int .i64 j, .agg #[.int .i64 a, .string d]] w fun e w' => e = .returned (.bool true) ∧ Below w.heap.size w w' := by
  by_cases h : isLong7 ops ∨ 500 < d.size ∨ ¬ PgOk a d
  · exact storeLast_early v ops i j a d w hv hd h
  · exact storeLast_go v ops i j a d w hv h
end Go.Proofs.Ytpjkejgnnceanaa

/- careenlaw07.StoreLast: it returns true for every input, and leaves its arguments as they were: the row's proof, out of the walk.
   Conditions: none beside the row's own (each argument is read as data). -/
namespace Go.Proofs.Ytpjkejgnnceanaa.storeLast
open Go.ChangeShapes Go.WideShapes Go.ChangeAt Go.RowKit Go.Joins
open Go.ChangeMaps (open_string shut_string)
set_option linter.unusedVariables false

theorem own : ownKnob Try.prog.godebug = none := by kernel_rfl
theorem laidOut : laidOutB Try.prog = true := by kernel_rfl
theorem cellsPg : Try.prog.cellsOf 34 = 2 := by kernel_rfl

set_option maxRecDepth 100000 in
theorem lifted (os : Os) (started : os.Started) (H : Type) (enc : TypeId × Value → H) :
    ReturnsInHanded {} Try.checked os 5 .any (Rows.storeLastSpec.pre6 enc Try.prog Try.f5 Rows.storeLastRow.domain false) (Rows.storeLastSpec.post enc Try.prog Try.f5 false true false false) := by
  refine returnsInHanded_of_change (C := Try.checked) own started (by kernel_rfl) Try.func5
    (ChangeSpec.witness6 (enc := enc) (C := Try.checked) false ⟨#[], #[.slice none 0 0, .int .i64 0, .int .i64 0, .agg #[.int .i64 0, .string ByteArray.empty]], []⟩ 8 (by kernel_rfl) (by kernel_rfl) (by kernel_rfl) (by kernel_rfl)) ?_
  intro W base args ds gs before hval0 hW hcnd _
  have hval : ∀ (j : Nat) t v, Try.f5.params[j]? = some t → args[j]? = some v → Value.okWide Try.prog W .any base t v := hval0
  have hW' := hW
  obtain ⟨p, q, hA0, hV, rfl, hfz, hnd⟩ := hW
  have hA : DataW.TrodAll enc Try.prog W 0 (fun _ => true) true Try.f5.params.toList args.toList ds p := hA0
  rw [Try.params5] at hA hval
  obtain ⟨v0, vs0, d0, ds0, p0, q0, hargs, rfl, rfl, h0, r0⟩ := trodAll_cons hA
  obtain ⟨v1, vs1, d1, ds1, p1, q1, rfl, rfl, rfl, h1, r1⟩ := trodAll_cons r0
  obtain ⟨v2, vs2, d2, ds2, p2, q2, rfl, rfl, rfl, h2, r2⟩ := trodAll_cons r1
  obtain ⟨v3, vs3, d3, ds3, p3, q3, rfl, rfl, rfl, h3, r3⟩ := trodAll_cons r2
  obtain ⟨rfl, rfl, rfl⟩ := trodAll_nil r3
  obtain rfl : args = #[v0, v1, v2, v3] := by cases args; simp_all
  obtain ⟨rfl, rfl⟩ := trodVars_none hV
  have k0 := h0
  have lt0 : ∀ x ∈ p0, x.block < W.heap.size := by obtain ⟨m, hm⟩ := k0; exact DataW.trod_lt m _ _ _ hm
  have k1 := h1
  have lt1 : ∀ x ∈ p1, x.block < W.heap.size := by obtain ⟨m, hm⟩ := k1; exact DataW.trod_lt m _ _ _ hm
  have k2 := h2
  have lt2 : ∀ x ∈ p2, x.block < W.heap.size := by obtain ⟨m, hm⟩ := k2; exact DataW.trod_lt m _ _ _ hm
  have k3 := h3
  have lt3 : ∀ x ∈ p3, x.block < W.heap.size := by obtain ⟨m, hm⟩ := k3; exact DataW.trod_lt m _ _ _ hm
  obtain ⟨a0, w0⟩ := open_ops7 (hval 0 22 v0 rfl rfl) h0
  obtain ⟨a1, rfl, rfl, rfl, w1⟩ := open_int Try.underlying3 (hval 1 3 v1 rfl rfl) h1
  obtain ⟨a2, rfl, rfl, rfl, w2⟩ := open_int Try.underlying3 (hval 2 3 v2 rfl rfl) h2
  obtain ⟨c30, c31, y30, y31, m3, rfl, rfl, hp3, hy30, hy31⟩ := open_agg2 Try.underlying34 (by kernel_rfl) cellsPg (hval 3 34 v3 rfl rfl) h3
  obtain ⟨a30, e30, rfl, w30⟩ := DataW.trod_int Try.underlying3 hy30
  obtain ⟨a31, e31, rfl, w31⟩ := DataW.trod_string Try.underlying9 hy31
  simp only [List.cons.injEq, and_true] at e30 e31
  subst e30 e31
  clear hA0 hval0
  refine (walkStoreLast v0 a0 a1 a2 a30 a31 W w0 w1 w2 w30 w31).mono fun e W' ⟨he, bel⟩ => ?_
  subst he
  exact ⟨_, rfl, _, _, _, [], _, [], hW', trodAll_mk1 (shut_bool Try.underlying4 _), (trodAll_cons_mk (Below.trod laidOut (by kernel_rfl) (of_decide_eq_true (by kernel_rfl)) k0 bel lt0) (trodAll_cons_mk (Below.trod laidOut (by kernel_rfl) (of_decide_eq_true (by kernel_rfl)) k1 bel lt1) (trodAll_cons_mk (Below.trod laidOut (by kernel_rfl) (of_decide_eq_true (by kernel_rfl)) k2 bel lt2) (trodAll_cons_mk (Below.trod laidOut (by kernel_rfl) (of_decide_eq_true (by kernel_rfl)) k3 bel lt3) trodAll_mk0)))), rfl, bel.frame _, fun h => by cases h⟩

theorem over : Rows.storeLastRow.holds Try.pinned (OpenSpec.ofChange Rows.storeLastSpec) :=
  OpenClaim.holds_of_wide 5 Try.f5 rfl rfl rfl rfl rfl rfl rfl ⟨rfl, rfl, rfl, rfl, rfl⟩ rfl rfl rfl rfl rfl (by kernel_rfl) Try.func5 (by kernel_rfl)
    (of_decide_eq_true (by kernel_rfl)) (by unfold Func.isWrapper; first | (rw [if_pos (by decide +kernel)]; kernel_rfl) | (rw [if_neg (by decide +kernel)]; exact ⟨rfl, rfl⟩))
    (fun os started H enc _ => lifted os started H enc)

/-- The given statement. -/
theorem proved : Rows.StoreLastSaid := over
end Go.Proofs.Ytpjkejgnnceanaa.storeLast
