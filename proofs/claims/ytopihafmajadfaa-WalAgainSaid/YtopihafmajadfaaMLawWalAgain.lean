/- careenlaw05.WalAgain: it returns true for every input, and leaves its arguments as they were: the row's proof, out of the walk.
   Conditions: none beside the row's own (each argument is read as data). -/
import Derived.Test.YtopihafmajadfaaOpen
import Derived.Test.YtopihafmajadfaaOpenRecs
import Derived.Test.YtopihafmajadfaaRecM2
import Derived.Test.YtopihafmajadfaaJdisk
import Derived.Test.YtopihafmajadfaaBase
import Derived.IntWalk
import Derived.Test.YtopihafmajadfaaJwalK
import Derived.ProofKit
import Derived.OpenShut
import Derived.ShutString
import Derived.ChangeOld
import Derived.Below
import Derived.Lib.SmallJoins
/- careenlaw05: operations that came in; are there more than are played? -/
namespace Go.Proofs.Ytopihafmajadfaa
open Go.ChangeShapes Go.WideShapes Go.RowKit
set_option maxRecDepth 100000

structure Op5 where
  kind : Int
  n : Int
  r : Rc
  picks : List UInt8
def op5Cells (o : Op5) (vt vp pv : Value) : Array Value := #[.int .i64 o.kind, .int .i64 o.n, .int .i64 o.r.kind, .int .i64 o.r.txn, .int .i64 o.r.page, .int .i64 o.r.off, .int .i64 o.r.prev, .int .i64 o.r.next, .int .i64 o.r.beg, .string o.r.before, .string o.r.after, vt, vp, pv]
theorem op5_toList (o : Op5) (vt vp pv : Value) : (op5Cells o vt vp pv).toList = .int .i64 o.kind :: .int .i64 o.n :: ((recCells o.r vt vp).toList ++ [pv]) := rfl
def Op5Q (w : World) (cs : List Value) (o : Op5) : Prop := ∃ vt vp pv, cs = (op5Cells o vt vp pv).toList ∧ Lists w o.r vt vp ∧ Sized o.r ∧ Reads w pv (byteVs o.picks) ∧ (Lit.int .i64 o.n).wf = true ∧ o.picks.length ≤ maxLen
abbrev IsOps5 (w : World) (v : Value) (l : List Op5) : Prop := ListOf 14 Op5Q w v l
theorem Op5Q.keep {w w' : World} {cs : List Value} {o : Op5} (h : Op5Q w cs o) (hb : Below w.heap.size w w') : Op5Q w' cs o := by
  obtain ⟨vt, vp, pv, e, hl, hs, hr, hn, hm⟩ := h
  exact ⟨vt, vp, pv, e, hl.keep hb, hs, hr.keep hb, hn, hm⟩
theorem IsOps5.keep {w w' : World} {v : Value} {l : List Op5} (h : IsOps5 w v l) (hb : Below w.heap.size w w') : IsOps5 w' v l := ListOf.keep h (fun _ _ hq => hq.keep hb) hb
theorem cellsOp5 : Try.prog.cellsOf 58 = 14 := by kernel_rfl
theorem cellsInt5 : Try.prog.cellsOf 3 = 1 := by kernel_rfl
theorem cellsByte5 : Try.prog.cellsOf 5 = 1 := by kernel_rfl
theorem cellsPicks5 : Try.prog.cellsOf 56 = 1 := by kernel_rfl
theorem read_op5 {H : Type} {enc : TypeId × Value → H} {W : World} {n : Nat} {cs : List Value} {y : DataW H × List MemPlace} (hcl : cs.length = 14) (h : DataW.trod enc Try.prog W 0 (fun _ => true) true n 58 cs = some y) : ∃ o : Op5, Op5Q W cs o := by
  obtain ⟨xs, k, _, _, _, hxl, hg⟩ := DataW.trod_struct Try.underlying58 h
  match cs, hcl with
  | [x0, x1, x2, x3, x4, x5, x6, x7, x8, x9, x10, x11, x12, x13], _ =>
    match xs, hxl with
    | [y0, y1, y2, y3], _ =>
      have g0 : DataW.trod enc Try.prog W 0 (fun _ => true) true k 3 (([x0, x1, x2, x3, x4, x5, x6, x7, x8, x9, x10, x11, x12, x13].drop 0).take (Try.prog.cellsOf 3)) = [y0, y1, y2, y3][0]? := hg 0 _ rfl
      have g1 : DataW.trod enc Try.prog W 0 (fun _ => true) true k 3 (([x0, x1, x2, x3, x4, x5, x6, x7, x8, x9, x10, x11, x12, x13].drop 1).take (Try.prog.cellsOf 3)) = [y0, y1, y2, y3][1]? := hg 1 _ rfl
      have g2 : DataW.trod enc Try.prog W 0 (fun _ => true) true k 26 (([x0, x1, x2, x3, x4, x5, x6, x7, x8, x9, x10, x11, x12, x13].drop 2).take (Try.prog.cellsOf 26)) = [y0, y1, y2, y3][2]? := hg 2 _ rfl
      have g3 : DataW.trod enc Try.prog W 0 (fun _ => true) true k 56 (([x0, x1, x2, x3, x4, x5, x6, x7, x8, x9, x10, x11, x12, x13].drop 13).take (Try.prog.cellsOf 56)) = [y0, y1, y2, y3][3]? := hg 3 _ rfl
      simp only [cellsInt5, cellsRec, cellsPicks5, List.drop_zero, List.drop_succ_cons, List.take_succ_cons, List.take_zero, List.getElem?_cons_zero, List.getElem?_cons_succ] at g0 g1 g2 g3
      obtain ⟨z0, e0, _, w0⟩ := DataW.trod_int Try.underlying3 g0
      obtain ⟨z1, e1, _, w1⟩ := DataW.trod_int Try.underlying3 g1
      obtain ⟨r, vt, vp, e2, hl, hs⟩ := read_rec rfl g2
      obtain ⟨v4, l4, e3, r4, h4⟩ := reads_bytes Try.underlying56 Try.underlying5 cellsByte5 g3
      simp only [List.cons.injEq, and_true] at e0 e1 e3
      subst e0 e1 e3
      refine ⟨⟨z0, z1, r, l4⟩, vt, vp, x13, ?_, hl, hs, r4, w1, h4⟩
      rw [op5_toList, ← e2]
      rfl
theorem open_ops5 {H : Type} {enc : TypeId × Value → H} {W : World} {b0 : Nat} {r : Reach} {v : Value} {d : DataW H} {p : List MemPlace} (hval : Value.okWide Try.prog W r b0 47 v) (h : DataW.Trod enc Try.prog W 0 (fun _ => true) true 47 v d p) :
    ∃ l, IsOps5 W v l :=
  haveI : Inhabited Op5 := ⟨⟨0, 0, Rc.nil, []⟩⟩
  open_list Try.underlying47 14 (by decide) cellsOp5 hval h Op5Q fun _ _ _ hcl ht => read_op5 hcl ht
/-- An operation in cells behind one another. -/
structure Op5At (w : World) (b o : Nat) (x : Op5) (vt vp pv : Value) : Prop where
  c0 : w.cell? ⟨b, o, none⟩ = some (.int .i64 x.kind)
  c1 : w.cell? ⟨b, o + 1, none⟩ = some (.int .i64 x.n)
  c2 : w.cell? ⟨b, o + 2, none⟩ = some (.int .i64 x.r.kind)
  c3 : w.cell? ⟨b, o + 3, none⟩ = some (.int .i64 x.r.txn)
  c4 : w.cell? ⟨b, o + 4, none⟩ = some (.int .i64 x.r.page)
  c5 : w.cell? ⟨b, o + 5, none⟩ = some (.int .i64 x.r.off)
  c6 : w.cell? ⟨b, o + 6, none⟩ = some (.int .i64 x.r.prev)
  c7 : w.cell? ⟨b, o + 7, none⟩ = some (.int .i64 x.r.next)
  c8 : w.cell? ⟨b, o + 8, none⟩ = some (.int .i64 x.r.beg)
  c9 : w.cell? ⟨b, o + 9, none⟩ = some (.string x.r.before)
  c10 : w.cell? ⟨b, o + 10, none⟩ = some (.string x.r.after)
  c11 : w.cell? ⟨b, o + 11, none⟩ = some vt
  c12 : w.cell? ⟨b, o + 12, none⟩ = some vp
  c13 : w.cell? ⟨b, o + 13, none⟩ = some pv
theorem Op5At.mk' {w : World} {b o : Nat} {x : Op5} {vt vp pv : Value} (h : ∀ i u, (op5Cells x vt vp pv)[i]? = some u → w.cell? ⟨b, o + i, none⟩ = some u) : Op5At w b o x vt vp pv :=
  ⟨h 0 _ rfl, h 1 _ rfl, h 2 _ rfl, h 3 _ rfl, h 4 _ rfl, h 5 _ rfl, h 6 _ rfl, h 7 _ rfl, h 8 _ rfl, h 9 _ rfl, h 10 _ rfl, h 11 _ rfl, h 12 _ rfl, h 13 _ rfl⟩
theorem Op5At.keep {w w' : World} {b o : Nat} {x : Op5} {vt vp pv : Value} (h : Op5At w b o x vt vp pv) (hb : Below w.heap.size w w') : Op5At w' b o x vt vp pv := by
  have hlt := World.block_lt_of_cell? w ⟨b, o, none⟩ h.c0
  have k : ∀ x, w'.cell? ⟨b, x, none⟩ = w.cell? ⟨b, x, none⟩ := fun x => hb.cell (p := ⟨b, x, none⟩) hlt
  exact ⟨(k _).trans h.c0, (k _).trans h.c1, (k _).trans h.c2, (k _).trans h.c3, (k _).trans h.c4, (k _).trans h.c5, (k _).trans h.c6, (k _).trans h.c7, (k _).trans h.c8, (k _).trans h.c9, (k _).trans h.c10, (k _).trans h.c11, (k _).trans h.c12, (k _).trans h.c13⟩
theorem IsOps5.at_ {w : World} {v : Value} {l : List Op5} (h : IsOps5 w v l) (hl : 0 < l.length) : ∃ b off cap, v = .slice (some ⟨b, off, none⟩) l.length cap ∧ l.length ≤ cap ∧ cap ≤ maxLen ∧ b < w.heap.size ∧
    ∀ j (hj : j < l.length), ∃ ta tc pa pc ka kc, Lists w l[j].r (.slice ta l[j].r.txns.length tc) (.slice pa l[j].r.pages.length pc) ∧ Sized l[j].r ∧ Reads w (.slice ka l[j].picks.length kc) (byteVs l[j].picks) ∧ (Lit.int .i64 l[j].n).wf = true ∧ l[j].picks.length ≤ maxLen ∧
      Op5At w b (off + j * 14) l[j] (.slice ta l[j].r.txns.length tc) (.slice pa l[j].r.pages.length pc) (.slice ka l[j].picks.length kc) := by
  rcases h.cases with ⟨rfl, _⟩ | ⟨b, off, cap, rfl, _, h2, h3, h4, h5⟩
  · simp at hl
  refine ⟨b, off, cap, rfl, h2, h3, h4, fun j hj => ?_⟩
  obtain ⟨cs, ⟨vt, vp, pv, rfl, hl, hs, hr, hn, hm⟩, hc⟩ := h5 j hj
  obtain ⟨ta, tc, e⟩ := hl.t.form
  obtain ⟨pa, pc, e'⟩ := hl.p.form
  have hr2 := hr
  obtain ⟨ka, kc, e'', _⟩ := hr2
  rw [show (byteVs l[j].picks).length = l[j].picks.length by simp [byteVs]] at e''
  subst e e' e''
  exact ⟨ta, tc, pa, pc, ka, kc, hl, hs, hr, hn, hm, .mk' fun i u hu => hc i u (by rw [Array.getElem?_toList]; exact hu)⟩

def isLong5 (ops : List Op5) : Prop := (∃ o ∈ ops, ¬ Fit o.r ∨ 200 < o.picks.length) ∨ 200 < ops.length
/-- The variable's cells, spelled as the walk spells them. -/
def op5Zero : Array Value := #[.int .i64 0, .int .i64 0, .int .i64 0, .int .i64 0, .int .i64 0, .int .i64 0, .int .i64 0, .int .i64 0, .int .i64 0, .string ⟨#[]⟩, .string ⟨#[]⟩, .slice none 0 0, .slice none 0 0, .slice none 0 0]
set_option maxHeartbeats 16000000 in
theorem long5_any (v : Value) (ops : List Op5) (w : World) (hr : IsOps5 w v ops) (yes : Bool) (hy : yes = true ↔ isLong5 ops) :
    Calls Try.prog 23 #[v] w fun e w' => e = .returned (.bool yes) ∧ Below w.heap.size w w' := by
  have HV := Lib.hid hr
  obtain ⟨a, cap, rfl, h1, h2, _⟩ := hr
  have hm : (ops.length : Int) ≤ 9223372036854775807 := by unfold maxLen at h2; omega
  have HY := Lib.hid hy
  clear h1 h2 hy
  go_enter Try.func23, Try.ntmps23
  go_wp2_with fail
  go_loopw [7] (fun vk wr => ∃ k : Nat, vk = .int .i64 k ∧ k ≤ ops.length ∧ Below w.heap.size w wr ∧ ∀ o ∈ ops.take k, Fit o.r ∧ ¬ 200 < o.picks.length) (fun vk _ => ops.length - (intOf vk).toNat)
  case atStart => exact ⟨0, rfl, Nat.zero_le _, Below.refl _ _, fun o ho => by simp at ho⟩
  case round =>
    obtain ⟨k, rfl, hk, hB, hall⟩ := hrel
    have HB := Lib.hid hB
    have HALL := Lib.hid hall
    clear hB hall
    by_cases hlt : k < ops.length
    · obtain ⟨b, off, cap', hva, _, _, hbw, hel⟩ := HV.out.at_ (by omega)
      cases hva
      obtain ⟨ta, tc, pa, pc, ka, kc, hls0, hsz, hrd, hnw, hpm, hc⟩ := hel k hlt
      have HLS := Lib.hid (hls0.keep HB.out)
      have HSZ := Lib.hid hsz
      have HIN : Hid (ops[k] ∈ ops) := List.getElem_mem hlt
      have HTK : Hid (ops.take (k + 1) = ops.take k ++ [ops[k]]) := by unfold Hid; rw [List.take_succ_eq_append_getElem hlt]
      have hp : (ops[k].picks.length : Int) ≤ 9223372036854775807 := by unfold maxLen at hpm; omega
      obtain ⟨c0, c1, c2, c3, c4, c5, c6, c7, c8, c9, c10, c11, c12, c13⟩ := hc.keep HB.out
      clear hls0 hsz hel hc hrd hnw hpm
      generalize ops[k] = o at *
      have hn := Blk.new wr 58 op5Zero
      have N3 := hn.setRow (op5Cells o (.slice ta o.r.txns.length tc) (.slice pa o.r.pages.length pc) (.slice ka o.picks.length kc))
      have hb3 : Below wr.heap.size wr ((wr.alloc (.cells op5Zero 58)).setRow wr.heap.size (op5Cells o (.slice ta o.r.txns.length tc) (.slice pa o.r.pages.length pc) (.slice ka o.picks.length kc))) := below_setRow ((Below.refl _ _).alloc (Nat.le_refl _) _) (Nat.le_refl _) _
      have HB3 := Lib.hid (below2 HB.out hb3)
      have HLS3 := Lib.hid (HLS.out.keep hb3)
      go_upto_region 4 with (refine wpList_store_row rfl 58 _ _ rfl wr.heap.size _ rfl rfl 58 _ hn (by kernel_rfl) rfl (by simp [Value.oneCell']) ?_)
      clear hn hb3 c0 c1 c2 c3 c4 c5 c6 c7 c8 c9 c10 c11 c12 c13 HLS HB hbw
      change Code.wp _ _ _ _ ((wr.alloc (.cells op5Zero 58)).setRow wr.heap.size (op5Cells o (.slice ta o.r.txns.length tc) (.slice pa o.r.pages.length pc) (.slice ka o.picks.length kc)))
      generalize (wr.alloc (.cells op5Zero 58)).setRow wr.heap.size (op5Cells o (.slice ta o.r.txns.length tc) (.slice pa o.r.pages.length pc) (.slice ka o.picks.length kc)) = w3 at *
      generalize wr.heap.size = x at *
      have IR : Hid (IsRec w3 (.agg (recCells o.r (.slice ta o.r.txns.length tc) (.slice pa o.r.pages.length pc))) o.r) := ⟨_, _, rfl, HLS3.out⟩
      have d2 : w3.cell? ⟨x, 2, none⟩ = some (.int .i64 o.r.kind) := N3.cell 2
      have d3 : w3.cell? ⟨x, 3, none⟩ = some (.int .i64 o.r.txn) := N3.cell 3
      have d4 : w3.cell? ⟨x, 4, none⟩ = some (.int .i64 o.r.page) := N3.cell 4
      have d5 : w3.cell? ⟨x, 5, none⟩ = some (.int .i64 o.r.off) := N3.cell 5
      have d6 : w3.cell? ⟨x, 6, none⟩ = some (.int .i64 o.r.prev) := N3.cell 6
      have d7 : w3.cell? ⟨x, 7, none⟩ = some (.int .i64 o.r.next) := N3.cell 7
      have d8 : w3.cell? ⟨x, 8, none⟩ = some (.int .i64 o.r.beg) := N3.cell 8
      have d9 : w3.cell? ⟨x, 9, none⟩ = some (.string o.r.before) := N3.cell 9
      have d10 : w3.cell? ⟨x, 10, none⟩ = some (.string o.r.after) := N3.cell 10
      have d11 : w3.cell? ⟨x, 11, none⟩ = some (.slice ta o.r.txns.length tc) := N3.cell 11
      have d12 : w3.cell? ⟨x, 12, none⟩ = some (.slice pa o.r.pages.length pc) := N3.cell 12
      by_cases hf : Fit o.r
      · have FEW := Lib.hid (few_yes IR.out hf)
        have HF := Lib.hid hf
        clear hf
        go_wp2_with fail
        refine FEW.out.mono ?_
        rintro e w4 ⟨rfl, hb4⟩
        have d13 : w4.cell? ⟨x, 13, none⟩ = some (.slice ka o.picks.length kc) := (N3.keep hb4 N3.lt).cell 13
        have HB4 := Lib.hid (below2 HB3.out hb4)
        clear hb4 HB3 N3 HLS3 IR FEW d2 d3 d4 d5 d6 d7 d8 d9 d10 d11 d12
        by_cases hp2 : 200 < o.picks.length
        · have hp3 : (200 : Int) < o.picks.length := by omega
          have hyes : yes = true := HY.out.2 (.inl ⟨o, HIN.out, .inr hp2⟩)
          go_wp2
          go_ret
          exact ⟨by rw [hyes]; rfl, HB4.out⟩
        · have hp3 : ¬ (200 : Int) < o.picks.length := by omega
          have HALL2 : Hid (∀ q ∈ ops.take (k + 1), Fit q.r ∧ ¬ 200 < q.picks.length) := fun q hq => by
            rw [HTK.out] at hq
            rcases List.mem_append.1 hq with hq | hq
            · exact HALL.out q hq
            · simp at hq; subst hq; exact ⟨HF.out, hp2⟩
          clear HALL hp2
          go_wp2
          go_roundw
          case rel => exact ⟨k + 1, by go_num, by omega, HB4.out, HALL2.out⟩
          case measure => simp [intOf]; omega
      · have FEW := Lib.hid (few_no IR.out HSZ.out hf)
        have hyes : yes = true := HY.out.2 (.inl ⟨o, HIN.out, .inl hf⟩)
        clear hf
        go_wp2_with fail
        refine FEW.out.mono ?_
        rintro e w4 ⟨rfl, hb4⟩
        have HB4 := Lib.hid (below2 HB3.out hb4)
        clear hb4 HB3 N3 HLS3 IR FEW d2 d3 d4 d5 d6 d7 d8 d9 d10 d11 d12
        go_wp2
        go_ret
        exact ⟨by rw [hyes]; rfl, HB4.out⟩
    · obtain rfl : k = ops.length := by omega
      have hyes : yes = decide ((200 : Int) < ops.length) := by
        have hall := HALL.out
        rw [List.take_length] at hall
        have h2 : isLong5 ops ↔ (200 : Int) < ops.length := by
          unfold isLong5
          constructor
          · rintro (⟨o, ho, h⟩ | h)
            · have := hall o ho
              rcases h with h | h
              · exact absurd this.1 h
              · exact absurd h this.2
            · omega
          · intro h; exact .inr (by omega)
        by_cases h : (200 : Int) < ops.length
        · rw [decide_eq_true h]; exact HY.out.2 (h2.2 h)
        · rw [decide_eq_false h]
          cases hyy : yes with
          | true => exact absurd (h2.1 (HY.out.1 hyy)) h
          | false => rfl
      go_wp2
      go_ret
      exact ⟨by rw [hyes]; rfl, HB.out⟩
end Go.Proofs.Ytopihafmajadfaa

/- 'int(uint(i) % m)'; nothing of the program is imported. -/
namespace Go.Proofs.Ytopihafmajadfaa
open Go.RowKit

def modN (i m : Int) : Nat := (IntKind.u64.wrap i % m).toNat
theorem modN_pos (i : Int) : 0 ≤ IntKind.u64.wrap i := by rw [IntKind.wrap_u64]; omega
theorem modN_lt (i m : Int) (hm : 0 < m) : (modN i m : Int) < m := by
  have h1 := Int.emod_lt_of_pos (IntKind.u64.wrap i) hm
  have h2 := Int.emod_nonneg (IntKind.u64.wrap i) (Int.ne_of_gt hm)
  unfold modN; omega
theorem modN_eq (i m : Int) (hm : 0 < m) (hm2 : m ≤ 1000) : wrap64 ((IntKind.u64.wrap i).tmod m) = (modN i m : Int) := by
  have h1 := Int.emod_lt_of_pos (IntKind.u64.wrap i) hm
  have h2 := Int.emod_nonneg (IntKind.u64.wrap i) (Int.ne_of_gt hm)
  rw [Int.tmod_eq_emod_of_nonneg (modN_pos i)]
  unfold modN
  generalize IntKind.u64.wrap i % m = x at *
  unfold wrap64
  omega
theorem size_eq (n : Int) (k : Int) (hk0 : 0 < k) (hk : k ≤ 1000) : ∃ N : Nat, 8 ≤ N ∧ (N : Int) < 8 + k ∧ wrap64 (8 + wrap64 ((IntKind.u64.wrap n).tmod k)) = (N : Int) := by
  have h1 := modN_eq n k hk0 hk
  have h2 := modN_lt n k hk0
  refine ⟨8 + modN n k, by omega, by omega, ?_⟩
  rw [h1]
  unfold wrap64
  omega
end Go.Proofs.Ytopihafmajadfaa

/- careenlaw05.WalAgain, walked. -/
namespace Go.Proofs.Ytopihafmajadfaa
open Go.RowKit

set_option maxRecDepth 100000 in
set_option maxHeartbeats 16000000 in
theorem walAgain_long (n : Int) (v : Value) (ops : List Op5) (low : Int) (w : World) (hv : IsOps5 w v ops) (hlong :  isLong5 ops) :
    Calls Try.prog 10 #[.int .i64 n, v, .int .i64 low] w fun e w' => e = .returned (.bool true) ∧ Below w.heap.size w w' := by
  have HV := Lib.hid hv
  obtain ⟨N, hN8, hN28, hk⟩ := size_eq n 20 (by omega) (by omega)
  have HK := Lib.hid hk
  have LG := Lib.hid (fun W (hW : Below w.heap.size w W) => long5_any v ops W (hv.keep hW) true (by simp [hlong]))
  clear hlong
  obtain ⟨a, cap, rfl, h1, h2, _⟩ := hv
  have hm : (ops.length : Int) ≤ 9223372036854775807 := by unfold maxLen at h2; omega
  clear h1 h2 hk
  go_enter Try.func10, Try.ntmps10
  go_wp2_with fail
  rw [HK.out]
  refine (new_ok N w (by omega) (by omega)).mono ?_
  rintro e w1 ⟨gd, FD, rfl, hd, hFD, hb1⟩
  have HD := Lib.hid hd
  have HFD := Lib.hid hFD
  have HB1 := Lib.hid hb1
  clear hd hFD hb1
  go_wp2_with fail
  refine (LiveL.make HD.out HFD.out HB1.out 0 N (by omega) (by omega) (by simp [Dk.new])).mono ?_
  rintro e w2 ⟨g, FL, rfl, hl2⟩
  have L2 := Lib.hid hl2
  clear hl2 HD HB1 HFD
  go_wp2_with fail
  refine (awake5 _).mono ?_
  rintro e w3 ⟨rfl, hb3⟩
  have L3 := Lib.hid (L2.out.more hb3)
  clear hb3 L2
  go_wp2_with fail
  refine (LG.out _ L3.out.below).mono ?_
  rintro e w4 ⟨rfl, hb4⟩
  have L4 := Lib.hid (L3.out.more hb4)
  clear hb4 L3 LG
  go_wp2_with fail
  refine (awake5 _).mono ?_
  rintro e w5 ⟨rfl, hb5⟩
  have HB5 := Lib.hid (L4.out.more hb5).below
  clear hb5 L4
  go_wp2
  go_ret
  exact ⟨rfl, HB5.out⟩

set_option maxRecDepth 100000 in
set_option maxHeartbeats 16000000 in
theorem walAgain_some (n : Int) (v : Value) (ops : List Op5) (low : Int) (w : World) (hv : IsOps5 w v ops) (hlong : ¬ isLong5 ops) :
    Calls Try.prog 10 #[.int .i64 n, v, .int .i64 low] w fun e w' => e = .returned (.bool true) ∧ Below w.heap.size w w' := by
  have HV := Lib.hid hv
  obtain ⟨N, hN8, hN28, hk⟩ := size_eq n 20 (by omega) (by omega)
  have HK := Lib.hid hk
  have LG := Lib.hid (fun W (hW : Below w.heap.size w W) => long5_any v ops W (hv.keep hW) false (by simp [hlong]))
  have HFIT : Hid (∀ o ∈ ops, Fit o.r ∧ o.picks.length ≤ 200) := fun o ho => ⟨Classical.byContradiction fun h => hlong (.inl ⟨o, ho, .inl h⟩), Nat.not_lt.1 fun h => hlong (.inl ⟨o, ho, .inr h⟩)⟩
  have hm2 : (ops.length : Int) ≤ 200 := Int.not_lt.1 fun h => hlong (.inr (by omega))
  obtain ⟨lw, hlw1, hlw5, hlow⟩ : ∃ lw : Nat, 1 ≤ lw ∧ lw ≤ 5 ∧ wrap64 (1 + wrap64 ((IntKind.u64.wrap low).tmod 5)) = (lw : Int) := by
    have h1 := modN_eq low 5 (by omega) (by omega)
    have h2 := modN_lt low 5 (by omega)
    refine ⟨1 + modN low 5, by omega, by omega, ?_⟩
    rw [h1]
    unfold wrap64
    omega
  have HLOW := Lib.hid hlow
  clear hlong hlow
  obtain ⟨a, cap, rfl, h1, h2, _⟩ := hv
  have hm : (ops.length : Int) ≤ 9223372036854775807 := by unfold maxLen at h2; omega
  clear h1 h2 hk
  go_enter Try.func10, Try.ntmps10
  go_wp2_with fail
  rw [HK.out]
  refine (new_ok N w (by omega) (by omega)).mono ?_
  rintro e w1 ⟨gd, FD, rfl, hd, hFD, hb1⟩
  have HD := Lib.hid hd
  have HFD := Lib.hid hFD
  have HB1 := Lib.hid hb1
  clear hd hFD hb1
  go_wp2_with fail
  refine (LiveL.make HD.out HFD.out HB1.out 0 N (by omega) (by omega) (by simp [Dk.new])).mono ?_
  rintro e w2 ⟨g, FL, rfl, hl2⟩
  have L2 := Lib.hid hl2
  clear hl2 HD HB1 HFD
  go_wp2_with fail
  refine (awake5 _).mono ?_
  rintro e w3 ⟨rfl, hb3⟩
  have L3 := Lib.hid (L2.out.more hb3)
  clear hb3 L2
  go_wp2_with fail
  refine (LG.out _ L3.out.below).mono ?_
  rintro e w4 ⟨rfl, hb4⟩
  have L4 := Lib.hid (L3.out.more hb4)
  clear hb4 L3 LG
  go_wp2_with fail
  go_loopw [50] (fun vk wr => ∃ (k : Nat) (FD FL : Foot) (D : Dk) (lg : Wl), vk = .int .i64 k ∧ k ≤ ops.length ∧ LiveL w wr FD FL g gd D lg ∧ Calm D lg N 1) (fun vk _ => ops.length - (intOf vk).toNat)
  case atStart => exact ⟨0, FD, FL, _, _, rfl, Nat.zero_le _, L4.out, Calm.new hN8 (by omega)⟩
  case round =>
    obtain ⟨k, FD2, FL2, D, lg, rfl, hk, hL, hC⟩ := hrel
    have HL := Lib.hid hL
    have HC := Lib.hid hC
    have HB := Lib.hid hL.below
    clear hL hC L4
    by_cases hlt : k < ops.length
    · obtain ⟨b, off, cap', hva, _, _, hbw, hel⟩ := HV.out.at_ (by omega)
      cases hva
      obtain ⟨ta, tc, pa, pc, ka, kc, hls0, hsz, hrd, hnw, hpm, hc⟩ := hel k hlt
      have HLS := Lib.hid (hls0.keep HB.out)
      have HSZ := Lib.hid hsz
      have HFP := Lib.hid (HFIT.out _ (List.getElem_mem hlt))
      obtain ⟨c0, c1, c2, c3, c4, c5, c6, c7, c8, c9, c10, c11, c12, c13⟩ := hc.keep HB.out
      clear hls0 hsz hel hc hrd hnw hpm
      generalize ops[k] = o at *
      have hn := Blk.new wr 58 op5Zero
      have N3 := hn.setRow (op5Cells o (.slice ta o.r.txns.length tc) (.slice pa o.r.pages.length pc) (.slice ka o.picks.length kc))
      have hb3 : Below wr.heap.size wr ((wr.alloc (.cells op5Zero 58)).setRow wr.heap.size (op5Cells o (.slice ta o.r.txns.length tc) (.slice pa o.r.pages.length pc) (.slice ka o.picks.length kc))) := below_setRow ((Below.refl _ _).alloc (Nat.le_refl _) _) (Nat.le_refl _) _
      have HL3 := Lib.hid (HL.out.more hb3)
      have HLS3 := Lib.hid (HLS.out.keep hb3)
      go_upto_region 9 with (refine wpList_store_row rfl 58 _ _ rfl wr.heap.size _ rfl rfl 58 _ hn (by kernel_rfl) rfl (by simp [Value.oneCell']) ?_)
      clear hn hb3 c0 c1 c2 c3 c4 c5 c6 c7 c8 c9 c10 c11 c12 c13 HLS HL HB hbw 
      change Code.wp _ _ _ _ ((wr.alloc (.cells op5Zero 58)).setRow wr.heap.size (op5Cells o (.slice ta o.r.txns.length tc) (.slice pa o.r.pages.length pc) (.slice ka o.picks.length kc)))
      generalize (wr.alloc (.cells op5Zero 58)).setRow wr.heap.size (op5Cells o (.slice ta o.r.txns.length tc) (.slice pa o.r.pages.length pc) (.slice ka o.picks.length kc)) = w3 at *
      generalize wr.heap.size = x at *
      have IR : Hid (IsRec w3 (.agg (recCells o.r (.slice ta o.r.txns.length tc) (.slice pa o.r.pages.length pc))) o.r) := ⟨_, _, rfl, HLS3.out⟩
      have d0 : w3.cell? ⟨x, 0, none⟩ = some (.int .i64 o.kind) := N3.cell 0
      have d1 : w3.cell? ⟨x, 1, none⟩ = some (.int .i64 o.n) := N3.cell 1
      have d2 : w3.cell? ⟨x, 2, none⟩ = some (.int .i64 o.r.kind) := N3.cell 2
      have d3 : w3.cell? ⟨x, 3, none⟩ = some (.int .i64 o.r.txn) := N3.cell 3
      have d4 : w3.cell? ⟨x, 4, none⟩ = some (.int .i64 o.r.page) := N3.cell 4
      have d5 : w3.cell? ⟨x, 5, none⟩ = some (.int .i64 o.r.off) := N3.cell 5
      have d6 : w3.cell? ⟨x, 6, none⟩ = some (.int .i64 o.r.prev) := N3.cell 6
      have d7 : w3.cell? ⟨x, 7, none⟩ = some (.int .i64 o.r.next) := N3.cell 7
      have d8 : w3.cell? ⟨x, 8, none⟩ = some (.int .i64 o.r.beg) := N3.cell 8
      have d9 : w3.cell? ⟨x, 9, none⟩ = some (.string o.r.before) := N3.cell 9
      have d10 : w3.cell? ⟨x, 10, none⟩ = some (.string o.r.after) := N3.cell 10
      have d11 : w3.cell? ⟨x, 11, none⟩ = some (.slice ta o.r.txns.length tc) := N3.cell 11
      have d12 : w3.cell? ⟨x, 12, none⟩ = some (.slice pa o.r.pages.length pc) := N3.cell 12
      have d13 : w3.cell? ⟨x, 13, none⟩ = some (.slice ka o.picks.length kc) := N3.cell 13
      by_cases hkd : o.kind = 1
      · go_wp2_with fail
        refine (HL3.out.append IR.out HFP.out.1).mono ?_
        rintro e w5 ⟨rfl, FL5, hL5, -⟩
        have HL5 := Lib.hid hL5
        have HC5 := Lib.hid (HC.out.app o.r)
        clear d0 d1 d2 d3 d4 d5 d6 d7 d8 d9 d10 d11 d12 d13 N3 HL3 HLS3 IR hL5 HC
        generalize lg.app o.r = ap at *
        go_wp2_with fail
        go_roundw
        case rel => exact ⟨k + 1, FD2, FL5, D, ap.2.2, by go_num, by omega, HL5.out, HC5.out⟩
        case measure => simp [intOf]; omega
      · have FLU := Lib.hid (HL3.out.flush (HC.out.hep (by omega)) HC.out.hw)
        have HC5 := Lib.hid (HC.out.flush (by omega))
        go_wp2_with fail
        refine FLU.out.mono ?_
        rintro e w5 ⟨rfl, FD5, hL5, -⟩
        have HL5 := Lib.hid hL5
        clear d0 d1 d2 d3 d4 d5 d6 d7 d8 d9 d10 d11 d12 d13 N3 HL3 HLS3 IR hL5 HC FLU
        generalize lg.flush D = ap at *
        go_wp2_with fail
        go_roundw
        case rel => exact ⟨k + 1, FD5, FL2, ap.1, ap.2.1, by go_num, by omega, HL5.out, HC5.out⟩
        case measure => simp [intOf]; omega
    · obtain rfl : k = ops.length := by omega
      have hgone := HC.out.stands.gone
      have hlen := HC.out.len
      go_wp2_with fail
      rw [HLOW.out]
      refine (HL.out.open_ hgone 0 N lw (by omega) (by omega) (by omega) (by omega) (by omega)).mono ?_
      rintro e w5 ⟨ga, FA, rfl, hLA, -, -⟩
      have LA := Lib.hid hLA
      clear hLA HL HB
      go_wp2_with fail
      refine (LA.out.open_ hgone 0 N lw (by omega) (by omega) (by omega) (by omega) (by omega)).mono ?_
      rintro e w6 ⟨gb, FB, rfl, hLB, -, hb6⟩
      have LA6 := Lib.hid (LA.out.more hb6)
      have LB6 := Lib.hid hLB
      have hlowv : (Wl.opened D 0 N lw).low = lw := rfl
      have HLV := Lib.hid hlowv
      clear hLB hb6 LA hlowv hgone hlen HC
      generalize Wl.opened D 0 N lw = lo at *
      go_wp2_with fail
      refine (scan_any LA6.out.sys.log 0 (by decide)).mono ?_
      rintro e w7 ⟨v7, q7, rfl, hq7, ho7, hb7, -⟩
      have LA7 := Lib.hid (LA6.out.more hb7)
      have LB7 := Lib.hid (LB6.out.more hb7)
      have E7 := Lib.hid ho7.isEnts
      rw [hq7] at E7
      clear hq7 ho7 hb7 LA6 LB6
      go_wp2_with fail
      refine (scan_any LB7.out.sys.log 0 (by decide)).mono ?_
      rintro e w8 ⟨v8, q8, rfl, hq8, ho8, hb8, -⟩
      have LA8 := Lib.hid (LA7.out.more hb8)
      have LB8 := Lib.hid (LB7.out.more hb8)
      have E7b := Lib.hid (E7.out.keep hb8)
      have E8 := Lib.hid ho8.isEnts
      rw [hq8] at E8
      clear hq8 ho8 hb8 LA7 LB7 E7
      go_wp2_with fail
      refine (refSameAll_any E7b.out E8.out true (by simp)).mono ?_
      rintro e w9 ⟨rfl, hb9⟩
      have LA9 := Lib.hid (LA8.out.more hb9)
      have LB9 := Lib.hid (LB8.out.more hb9)
      clear hb9 LA8 LB8 E7b E8
      go_wp2_with fail
      refine (epoch_any LA9.out.sys.log).mono ?_
      rintro e w10 ⟨rfl, rfl⟩
      go_wp2_with fail
      refine (epoch_any LB9.out.sys.log).mono ?_
      rintro e w11 ⟨rfl, rfl⟩
      go_wp2_with fail
      refine (next_any LA9.out.sys.log).mono ?_
      rintro e w12 ⟨rfl, n12, rfl⟩
      have LA12 := Lib.hid (LA9.out.more (drewN_below w9 n12))
      have LB12 := Lib.hid (LB9.out.more (drewN_below w9 n12))
      generalize w9.drewN n12 = w12 at *
      clear LA9 LB9
      go_wp2_with fail
      refine (next_any LB12.out.sys.log).mono ?_
      rintro e w13 ⟨rfl, n13, rfl⟩
      have LA13 := Lib.hid (LA12.out.more (drewN_below w12 n13))
      have LB13 := Lib.hid (LB12.out.more (drewN_below w12 n13))
      generalize w12.drewN n13 = w13 at *
      clear LA12 LB12
      go_wp2_with fail
      refine (room_any LA13.out.sys.log).mono ?_
      rintro e w14 ⟨rfl, n14, rfl⟩
      have LA14 := Lib.hid (LA13.out.more (drewN_below w13 n14))
      have LB14 := Lib.hid (LB13.out.more (drewN_below w13 n14))
      generalize w13.drewN n14 = w14 at *
      clear LA13 LB13
      go_wp2_with fail
      refine (room_any LB14.out.sys.log).mono ?_
      rintro e w15 ⟨rfl, n15, rfl⟩
      have LA15 := Lib.hid (LA14.out.more (drewN_below w14 n15))
      generalize w14.drewN n15 = w15 at *
      clear LA14 LB14
      go_wp2_with fail
      refine (low_any LA15.out.sys.log).mono ?_
      rintro e w16 ⟨rfl, rfl⟩
      rw [HLV.out]
      have HBF := Lib.hid LA15.out.below
      clear LA15
      go_wp2
      go_ret
      exact ⟨rfl, HBF.out⟩
theorem walkWalAgain (n : Int) (v : Value) (ops : List Op5) (low : Int) (w : World) (_ : (Lit.int .i64 n).wf = true) (hv : IsOps5 w v ops) (_ : (Lit.int .i64 low).wf = true) :
    Calls Try.prog 10 #[.int .i64 n, v, .int .i64 low] w fun e w' => e = .returned (.bool true) ∧ Below w.heap.size w w' := by
  by_cases h : isLong5 ops
  · exact walAgain_long n v ops low w hv h
  · exact walAgain_some n v ops low w hv h
end Go.Proofs.Ytopihafmajadfaa

/- careenlaw05.WalAgain: it returns true for every input, and leaves its arguments as they were: the row's proof, out of the walk.
   Conditions: none beside the row's own (each argument is read as data). -/
namespace Go.Proofs.Ytopihafmajadfaa.walAgain
open Go.ChangeShapes Go.WideShapes Go.ChangeAt Go.RowKit Go.Joins
open Go.ChangeMaps (open_string shut_string)
set_option linter.unusedVariables false

theorem own : ownKnob Try.prog.godebug = none := by kernel_rfl
theorem laidOut : laidOutB Try.prog = true := by kernel_rfl

set_option maxRecDepth 100000 in
theorem lifted (os : Os) (started : os.Started) (H : Type) (enc : TypeId × Value → H) :
    ReturnsInHanded {} Try.checked os 10 .any (Rows.walAgainSpec.pre6 enc Try.prog Try.f10 Rows.walAgainRow.domain false) (Rows.walAgainSpec.post enc Try.prog Try.f10 false true false false) := by
  refine returnsInHanded_of_change (C := Try.checked) own started (by kernel_rfl) Try.func10
    (ChangeSpec.witness6 (enc := enc) (C := Try.checked) false ⟨#[], #[.int .i64 0, .slice none 0 0, .int .i64 0], []⟩ 8 (by kernel_rfl) (by kernel_rfl) (by kernel_rfl) (by kernel_rfl)) ?_
  intro W base args ds gs before hval0 hW hcnd _
  have hval : ∀ (j : Nat) t v, Try.f10.params[j]? = some t → args[j]? = some v → Value.okWide Try.prog W .any base t v := hval0
  have hW' := hW
  obtain ⟨p, q, hA0, hV, rfl, hfz, hnd⟩ := hW
  have hA : DataW.TrodAll enc Try.prog W 0 (fun _ => true) true Try.f10.params.toList args.toList ds p := hA0
  rw [Try.params10] at hA hval
  obtain ⟨v0, vs0, d0, ds0, p0, q0, hargs, rfl, rfl, h0, r0⟩ := trodAll_cons hA
  obtain ⟨v1, vs1, d1, ds1, p1, q1, rfl, rfl, rfl, h1, r1⟩ := trodAll_cons r0
  obtain ⟨v2, vs2, d2, ds2, p2, q2, rfl, rfl, rfl, h2, r2⟩ := trodAll_cons r1
  obtain ⟨rfl, rfl, rfl⟩ := trodAll_nil r2
  obtain rfl : args = #[v0, v1, v2] := by cases args; simp_all
  obtain ⟨rfl, rfl⟩ := trodVars_none hV
  have k0 := h0
  have lt0 : ∀ x ∈ p0, x.block < W.heap.size := by obtain ⟨m, hm⟩ := k0; exact DataW.trod_lt m _ _ _ hm
  have k1 := h1
  have lt1 : ∀ x ∈ p1, x.block < W.heap.size := by obtain ⟨m, hm⟩ := k1; exact DataW.trod_lt m _ _ _ hm
  have k2 := h2
  have lt2 : ∀ x ∈ p2, x.block < W.heap.size := by obtain ⟨m, hm⟩ := k2; exact DataW.trod_lt m _ _ _ hm
  obtain ⟨a0, rfl, rfl, rfl, w0⟩ := open_int Try.underlying3 (hval 0 3 v0 rfl rfl) h0
  obtain ⟨a1, w1⟩ := open_ops5 (hval 1 47 v1 rfl rfl) h1
  obtain ⟨a2, rfl, rfl, rfl, w2⟩ := open_int Try.underlying3 (hval 2 3 v2 rfl rfl) h2
  clear hA0 hval0
  refine (walkWalAgain a0 v1 a1 a2 W w0 w1 w2).mono fun e W' ⟨he, bel⟩ => ?_
  subst he
  exact ⟨_, rfl, _, _, _, [], _, [], hW', trodAll_mk1 (shut_bool Try.underlying4 _), (trodAll_cons_mk (Below.trod laidOut (by kernel_rfl) (of_decide_eq_true (by kernel_rfl)) k0 bel lt0) (trodAll_cons_mk (Below.trod laidOut (by kernel_rfl) (of_decide_eq_true (by kernel_rfl)) k1 bel lt1) (trodAll_cons_mk (Below.trod laidOut (by kernel_rfl) (of_decide_eq_true (by kernel_rfl)) k2 bel lt2) trodAll_mk0))), rfl, bel.frame _, fun h => by cases h⟩

theorem over : Rows.walAgainRow.holds Try.pinned (OpenSpec.ofChange Rows.walAgainSpec) :=
  OpenClaim.holds_of_wide 10 Try.f10 rfl rfl rfl rfl rfl rfl rfl ⟨rfl, rfl, rfl, rfl, rfl⟩ rfl rfl rfl rfl rfl (by kernel_rfl) Try.func10 (by kernel_rfl)
    (of_decide_eq_true (by kernel_rfl)) (by unfold Func.isWrapper; first | (rw [if_pos (by decide +kernel)]; kernel_rfl) | (rw [if_neg (by decide +kernel)]; exact ⟨rfl, rfl⟩))
    (fun os started H enc _ => lifted os started H enc)

/-- The given statement. -/
theorem proved : Rows.WalAgainSaid := over
end Go.Proofs.Ytopihafmajadfaa.walAgain
