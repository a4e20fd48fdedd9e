/- careenlaw05.WalKeeps: it returns true for every input, and leaves its arguments as they were: the row's proof, out of the walk.
   Conditions: none beside the row's own (each argument is read as data). -/
import Derived.Test.YtopihafmajadfaaJwalK
import Derived.Test.YtopihafmajadfaaOpen
import Derived.Test.YtopihafmajadfaaOpenRecs
import Derived.Test.YtopihafmajadfaaRecM2
import Derived.Test.YtopihafmajadfaaJdisk
import Derived.Test.YtopihafmajadfaaBase
import Derived.IntWalk
import Derived.Deep.DeepCutAuto
import Derived.Deep.CutBlock
import Derived.ProofKit
import Derived.OpenShut
import Derived.ShutString
import Derived.ChangeOld
import Derived.Below
import Derived.Lib.SmallJoins
/- What is told of a log behind a crash, beside what was appended; plain mathematics. -/
namespace Go.Proofs.Ytopihafmajadfaa
open Go.RowKit

theorem Wl.allFrom_ge : ∀ (k : Nat) (s : List (List Rc)), (∀ rs ∈ s, ∀ r ∈ rs, May r) → ∀ x ∈ Wl.allFrom k s, 0 ≤ x.1
  | _, [], _, x, h => by simp [Wl.allFrom] at h
  | k, rs :: s, hs, x, h => by
    rcases List.mem_append.1 h with h | h
    · have := (entsOf_ge _ rs (hs rs (by simp)) x h).1
      omega
    · exact Wl.allFrom_ge (k + 1) s (fun q hq => hs q (by simp [hq])) x h
theorem Wl.scan_zero {l : Wl} (ok : l.Ok) : l.scan 0 = l.all := by
  unfold Wl.scan
  refine List.filter_eq_self.2 fun x hx => ?_
  have := Wl.allFrom_ge l.low l.secs (fun rs hrs => (ok.sec rs hrs).2.1) x hx
  simpa using this
/-- How many records the first m sectors have. -/
def Wl.cnt (l : Wl) (m : Nat) : Nat := (Wl.allFrom l.low (l.secs.take m)).length
theorem Wl.cnt_split (l : Wl) (m : Nat) : l.all = Wl.allFrom l.low (l.secs.take m) ++ Wl.allFrom (l.low + (l.secs.take m).length) (l.secs.drop m) := by
  unfold Wl.all
  rw [← Wl.allFrom_app, List.take_append_drop]
theorem Wl.cnt_take (l : Wl) (m : Nat) : l.all.take (l.cnt m) = Wl.allFrom l.low (l.secs.take m) := by
  rw [Wl.cnt_split l m]
  exact List.take_left
theorem Wl.cnt_le (l : Wl) (m : Nat) : l.cnt m ≤ l.all.length := by
  rw [Wl.cnt_split l m, List.length_append]
  exact Nat.le_add_right _ _
theorem Wl.cnt_mono (l : Wl) {m m' : Nat} (h : m ≤ m') : l.cnt m ≤ l.cnt m' := by
  unfold Wl.cnt
  have e : l.secs.take m' = l.secs.take m ++ (l.secs.drop m).take (m' - m) := by
    rw [← List.take_add, show m + (m' - m) = m' by omega]
  rw [e, Wl.allFrom_app, List.length_append]
  exact Nat.le_add_right _ _
theorem Wl.cnt_all (l : Wl) {m : Nat} (h : l.secs.length ≤ m) : l.cnt m = l.all.length := by
  unfold Wl.cnt Wl.all
  rw [List.take_of_length_le h]
theorem Wl.cnt_put {l : Wl} (ok : l.Ok) (r : Rc) (hl : l.low = 1) : (l.put r).cnt ((l.put r).first - 1) = l.cnt (l.first - 1) := by
  have h2 := ok.fe
  have h1 := ok.fl
  unfold Wl.end_ at h2
  rw [hl] at h2
  unfold Wl.put
  split
  · rename_i hj
    have hlt := hj.1
    unfold Wl.end_ at hlt
    rw [hl] at hlt
    unfold Wl.cnt
    simp only
    rw [List.take_append_of_le_length (by rw [List.length_dropLast]; omega), List.dropLast_eq_take, List.take_take]
    congr 3
    omega
  · split
    · unfold Wl.cnt
      simp only
      rw [List.take_append_of_le_length (by omega)]
    · rfl
theorem Calm.crashed {D : Dk} {l : Wl} {n E : Nat} (h : Calm D l n E) (hE : E < 4294967295) (a : Int) (p : List UInt8) (h8 : 8 ≤ n) (h64 : n ≤ 64) :
    ∃ m, l.cnt (l.first - 1) ≤ l.cnt m ∧ ((l.flush (D.arm a)).2.2 = 0 → l.cnt m = l.all.length) ∧ Calm ((l.flush (D.arm a)).1.crash p) (Wl.opened ((l.flush (D.arm a)).1.crash p) 0 n 1) n (E + 1) ∧
      (Wl.opened ((l.flush (D.arm a)).1.crash p) 0 n 1).all = l.all.take (l.cnt m) ∧ l.cnt m ≤ (Wl.opened ((l.flush (D.arm a)).1.crash p) 0 n 1).cnt ((Wl.opened ((l.flush (D.arm a)).1.crash p) 0 n 1).first - 1) := by
  obtain ⟨m, m1, m2, m3, m4, m5, m6, m7⟩ := (h.stands.arm a).crashed h.ok (h.hep (by omega)) p (by have := h.len; show D.safe.length ≤ 512; omega)
  rw [h.base, h.size] at m3 m5 m6
  have hlen : ((l.flush (D.arm a)).1.crash p).safe.length = n := by rw [m7]; exact h.len
  have hlow : (Wl.opened ((l.flush (D.arm a)).1.crash p) 0 n 1).low = 1 := rfl
  have hfirst : (Wl.opened ((l.flush (D.arm a)).1.crash p) 0 n 1).first - 1 = (Wl.opened ((l.flush (D.arm a)).1.crash p) 0 n 1).secs.length := by unfold Wl.opened; simp
  have hall : (Wl.opened ((l.flush (D.arm a)).1.crash p) 0 n 1).all = l.all.take (l.cnt m) := by
    rw [Wl.cnt_take]
    unfold Wl.all
    rw [m3, hlow, h.stands.low]
  refine ⟨m, Wl.cnt_mono l m1, fun h0 => Wl.cnt_all l (by rw [m4 h0]; exact Nat.le_refl _), ⟨Wl.Ok.opened h8 h64 (by omega) (Nat.le_refl _) (by decide), m5, rfl, ?_, rfl, rfl, hlen⟩, hall, ?_⟩
  · have := h.ep; omega
  · rw [hfirst, Wl.cnt_all _ (Nat.le_refl _), hall, List.length_take, Nat.min_eq_left (Wl.cnt_le l m)]
    exact Nat.le_refl _
theorem Calm.mono {D : Dk} {l : Wl} {n E E' : Nat} (h : Calm D l n E) (hE : E ≤ E') : Calm D l n E' := ⟨h.ok, h.stands, h.fuse, Nat.le_trans h.ep hE, h.base, h.size, h.len⟩

/-- A list that is cut off. -/
theorem OwnE.cut {w : World} {B g n cap : Nat} {q : List Qe} (h : OwnE w B (.slice (some ⟨g, 0, none⟩) n cap) q) (k : Nat) (hk : k ≤ q.length) : OwnE w B (.slice (some ⟨g, 0, none⟩) k cap) (q.take k) := by
  refine ⟨?_, fun x hx => h.lists x (List.mem_of_mem_take hx), fun x hx => h.apart x (List.mem_of_mem_take hx)⟩
  obtain ⟨h1, h2⟩ := h.own
  rw [List.length_take, Nat.min_eq_left hk]
  have hent : entsV (q.take k) = (entsV q).take (k * 12) := by
    have e : entsV (q.take k ++ q.drop k) = entsV (q.take k) ++ entsV (q.drop k) := by unfold entsV; rw [List.flatMap_append]
    rw [List.take_append_drop] at e
    have hl : (entsV (q.take k)).length = k * 12 := by rw [entsV_len, List.length_take, Nat.min_eq_left hk]
    rw [e, ← hl, List.take_left]
  refine ⟨by rw [entsV_len, List.length_take, Nat.min_eq_left hk], ?_⟩
  rcases h2 with ⟨h2, _⟩ | ⟨g', cap', cur, e, h3, h4, h5, h6, h7, h8⟩
  · cases h2
  · cases e
    refine .inr ⟨g, cap, cur, rfl, h3, h4, by omega, h6, h7, ?_⟩
    rw [hent, ← h8, List.take_take, Nat.min_eq_left (by omega)]
theorem KeptE.cut {w0 w : World} {F : Foot} {g n cap : Nat} {q : List Qe} (h : KeptE w0 w F (.slice (some ⟨g, 0, none⟩) n cap) q) (k : Nat) (hk : k ≤ q.length) : KeptE w0 w F (.slice (some ⟨g, 0, none⟩) k cap) (q.take k) :=
  ⟨h.own.cut k hk, fun x hx => h.old x (List.mem_of_mem_take hx), fun b hb => h.apart b (by simpa [Value.ownBlock] using hb)⟩

/-- The state of WalKeeps behind some of its operations. -/
structure KeepsAt (w0 w : World) (gd N k : Nat) (g : Nat) (vall : Value) (sf : Nat) : Prop where
  ex : ∃ (FD FL : Foot) (D : Dk) (l : Wl) (q : List Qe), LiveL w0 w FD FL g gd D l ∧ Calm D l N (k + 1) ∧ KeptE w0 w (Both FD FL) vall q ∧ q.map Qe.ent = l.all ∧ q.length ≤ k ∧ sf ≤ l.cnt (l.first - 1)
end Go.Proofs.Ytopihafmajadfaa

/- careenlaw05: operations that came in; are there more than are played? -/
namespace Go.Proofs.Ytopihafmajadfaa
open Go.ChangeShapes Go.WideShapes Go.RowKit
set_option maxRecDepth 100000

structure Op5 where
  kind : Int
  n : Int
  r : Rc
  picks : List UInt8
def op5Cells (o : Op5) (vt vp pv : Value) : Array Value := #[.int .i64 o.kind, .int .i64 o.n, .int .i64 o.r.kind, .int .i64 o.r.txn, .int .i64 o.r.page, .int .i64 o.r.off, .int .i64 o.r.prev, .int .i64 o.r.next, .int .i64 o.r.beg, .string o.r.before, .string o.r.after, vt, vp, pv]
theorem op5_toList (o : Op5) (vt vp pv : Value) : (op5Cells o vt vp pv).toList = .int .i64 o.kind :: .int .i64 o.n :: ((recCells o.r vt vp).toList ++ [pv]) := rfl
def Op5Q (w : World) (cs : List Value) (o : Op5) : Prop := ∃ vt vp pv, cs = (op5Cells o vt vp pv).toList ∧ Lists w o.r vt vp ∧ Sized o.r ∧ Reads w pv (byteVs o.picks) ∧ (Lit.int .i64 o.n).wf = true ∧ o.picks.length ≤ maxLen
abbrev IsOps5 (w : World) (v : Value) (l : List Op5) : Prop := ListOf 14 Op5Q w v l
theorem Op5Q.keep {w w' : World} {cs : List Value} {o : Op5} (h : Op5Q w cs o) (hb : Below w.heap.size w w') : Op5Q w' cs o := by
  obtain ⟨vt, vp, pv, e, hl, hs, hr, hn, hm⟩ := h
  exact ⟨vt, vp, pv, e, hl.keep hb, hs, hr.keep hb, hn, hm⟩
theorem IsOps5.keep {w w' : World} {v : Value} {l : List Op5} (h : IsOps5 w v l) (hb : Below w.heap.size w w') : IsOps5 w' v l := ListOf.keep h (fun _ _ hq => hq.keep hb) hb
theorem cellsOp5 : Try.prog.cellsOf 58 = 14 := by kernel_rfl
theorem cellsInt5 : Try.prog.cellsOf 3 = 1 := by kernel_rfl
theorem cellsByte5 : Try.prog.cellsOf 5 = 1 := by kernel_rfl
theorem cellsPicks5 : Try.prog.cellsOf 56 = 1 := by kernel_rfl
theorem read_op5 {H : Type} {enc : TypeId × Value → H} {W : World} {n : Nat} {cs : List Value} {y : DataW H × List MemPlace} (hcl : cs.length = 14) (h : DataW.trod enc Try.prog W 0 (fun _ => true) true n 58 cs = some y) : ∃ o : Op5, Op5Q W cs o := by
  obtain ⟨xs, k, _, _, _, hxl, hg⟩ := DataW.trod_struct Try.underlying58 h
  match cs, hcl with
  | [x0, x1, x2, x3, x4, x5, x6, x7, x8, x9, x10, x11, x12, x13], _ =>
    match xs, hxl with
    | [y0, y1, y2, y3], _ =>
      have g0 : DataW.trod enc Try.prog W 0 (fun _ => true) true k 3 (([x0, x1, x2, x3, x4, x5, x6, x7, x8, x9, x10, x11, x12, x13].drop 0).take (Try.prog.cellsOf 3)) = [y0, y1, y2, y3][0]? := hg 0 _ rfl
      have g1 : DataW.trod enc Try.prog W 0 (fun _ => true) true k 3 (([x0, x1, x2, x3, x4, x5, x6, x7, x8, x9, x10, x11, x12, x13].drop 1).take (Try.prog.cellsOf 3)) = [y0, y1, y2, y3][1]? := hg 1 _ rfl
      have g2 : DataW.trod enc Try.prog W 0 (fun _ => true) true k 26 (([x0, x1, x2, x3, x4, x5, x6, x7, x8, x9, x10, x11, x12, x13].drop 2).take (Try.prog.cellsOf 26)) = [y0, y1, y2, y3][2]? := hg 2 _ rfl
      have g3 : DataW.trod enc Try.prog W 0 (fun _ => true) true k 56 (([x0, x1, x2, x3, x4, x5, x6, x7, x8, x9, x10, x11, x12, x13].drop 13).take (Try.prog.cellsOf 56)) = [y0, y1, y2, y3][3]? := hg 3 _ rfl
      simp only [cellsInt5, cellsRec, cellsPicks5, List.drop_zero, List.drop_succ_cons, List.take_succ_cons, List.take_zero, List.getElem?_cons_zero, List.getElem?_cons_succ] at g0 g1 g2 g3
      obtain ⟨z0, e0, _, w0⟩ := DataW.trod_int Try.underlying3 g0
      obtain ⟨z1, e1, _, w1⟩ := DataW.trod_int Try.underlying3 g1
      obtain ⟨r, vt, vp, e2, hl, hs⟩ := read_rec rfl g2
      obtain ⟨v4, l4, e3, r4, h4⟩ := reads_bytes Try.underlying56 Try.underlying5 cellsByte5 g3
      simp only [List.cons.injEq, and_true] at e0 e1 e3
      subst e0 e1 e3
      refine ⟨⟨z0, z1, r, l4⟩, vt, vp, x13, ?_, hl, hs, r4, w1, h4⟩
      rw [op5_toList, ← e2]
      rfl
theorem open_ops5 {H : Type} {enc : TypeId × Value → H} {W : World} {b0 : Nat} {r : Reach} {v : Value} {d : DataW H} {p : List MemPlace} (hval : Value.okWide Try.prog W r b0 47 v) (h : DataW.Trod enc Try.prog W 0 (fun _ => true) true 47 v d p) :
    ∃ l, IsOps5 W v l :=
  haveI : Inhabited Op5 := ⟨⟨0, 0, Rc.nil, []⟩⟩
  open_list Try.underlying47 14 (by decide) cellsOp5 hval h Op5Q fun _ _ _ hcl ht => read_op5 hcl ht
/-- An operation in cells behind one another. -/
structure Op5At (w : World) (b o : Nat) (x : Op5) (vt vp pv : Value) : Prop where
  c0 : w.cell? ⟨b, o, none⟩ = some (.int .i64 x.kind)
  c1 : w.cell? ⟨b, o + 1, none⟩ = some (.int .i64 x.n)
  c2 : w.cell? ⟨b, o + 2, none⟩ = some (.int .i64 x.r.kind)
  c3 : w.cell? ⟨b, o + 3, none⟩ = some (.int .i64 x.r.txn)
  c4 : w.cell? ⟨b, o + 4, none⟩ = some (.int .i64 x.r.page)
  c5 : w.cell? ⟨b, o + 5, none⟩ = some (.int .i64 x.r.off)
  c6 : w.cell? ⟨b, o + 6, none⟩ = some (.int .i64 x.r.prev)
  c7 : w.cell? ⟨b, o + 7, none⟩ = some (.int .i64 x.r.next)
  c8 : w.cell? ⟨b, o + 8, none⟩ = some (.int .i64 x.r.beg)
  c9 : w.cell? ⟨b, o + 9, none⟩ = some (.string x.r.before)
  c10 : w.cell? ⟨b, o + 10, none⟩ = some (.string x.r.after)
  c11 : w.cell? ⟨b, o + 11, none⟩ = some vt
  c12 : w.cell? ⟨b, o + 12, none⟩ = some vp
  c13 : w.cell? ⟨b, o + 13, none⟩ = some pv
theorem Op5At.mk' {w : World} {b o : Nat} {x : Op5} {vt vp pv : Value} (h : ∀ i u, (op5Cells x vt vp pv)[i]? = some u → w.cell? ⟨b, o + i, none⟩ = some u) : Op5At w b o x vt vp pv :=
  ⟨h 0 _ rfl, h 1 _ rfl, h 2 _ rfl, h 3 _ rfl, h 4 _ rfl, h 5 _ rfl, h 6 _ rfl, h 7 _ rfl, h 8 _ rfl, h 9 _ rfl, h 10 _ rfl, h 11 _ rfl, h 12 _ rfl, h 13 _ rfl⟩
theorem Op5At.keep {w w' : World} {b o : Nat} {x : Op5} {vt vp pv : Value} (h : Op5At w b o x vt vp pv) (hb : Below w.heap.size w w') : Op5At w' b o x vt vp pv := by
  have hlt := World.block_lt_of_cell? w ⟨b, o, none⟩ h.c0
  have k : ∀ x, w'.cell? ⟨b, x, none⟩ = w.cell? ⟨b, x, none⟩ := fun x => hb.cell (p := ⟨b, x, none⟩) hlt
  exact ⟨(k _).trans h.c0, (k _).trans h.c1, (k _).trans h.c2, (k _).trans h.c3, (k _).trans h.c4, (k _).trans h.c5, (k _).trans h.c6, (k _).trans h.c7, (k _).trans h.c8, (k _).trans h.c9, (k _).trans h.c10, (k _).trans h.c11, (k _).trans h.c12, (k _).trans h.c13⟩
theorem IsOps5.at_ {w : World} {v : Value} {l : List Op5} (h : IsOps5 w v l) (hl : 0 < l.length) : ∃ b off cap, v = .slice (some ⟨b, off, none⟩) l.length cap ∧ l.length ≤ cap ∧ cap ≤ maxLen ∧ b < w.heap.size ∧
    ∀ j (hj : j < l.length), ∃ ta tc pa pc ka kc, Lists w l[j].r (.slice ta l[j].r.txns.length tc) (.slice pa l[j].r.pages.length pc) ∧ Sized l[j].r ∧ Reads w (.slice ka l[j].picks.length kc) (byteVs l[j].picks) ∧ (Lit.int .i64 l[j].n).wf = true ∧ l[j].picks.length ≤ maxLen ∧
      Op5At w b (off + j * 14) l[j] (.slice ta l[j].r.txns.length tc) (.slice pa l[j].r.pages.length pc) (.slice ka l[j].picks.length kc) := by
  rcases h.cases with ⟨rfl, _⟩ | ⟨b, off, cap, rfl, _, h2, h3, h4, h5⟩
  · simp at hl
  refine ⟨b, off, cap, rfl, h2, h3, h4, fun j hj => ?_⟩
  obtain ⟨cs, ⟨vt, vp, pv, rfl, hl, hs, hr, hn, hm⟩, hc⟩ := h5 j hj
  obtain ⟨ta, tc, e⟩ := hl.t.form
  obtain ⟨pa, pc, e'⟩ := hl.p.form
  have hr2 := hr
  obtain ⟨ka, kc, e'', _⟩ := hr2
  rw [show (byteVs l[j].picks).length = l[j].picks.length by simp [byteVs]] at e''
  subst e e' e''
  exact ⟨ta, tc, pa, pc, ka, kc, hl, hs, hr, hn, hm, .mk' fun i u hu => hc i u (by rw [Array.getElem?_toList]; exact hu)⟩

def isLong5 (ops : List Op5) : Prop := (∃ o ∈ ops, ¬ Fit o.r ∨ 200 < o.picks.length) ∨ 200 < ops.length
/-- The variable's cells, spelled as the walk spells them. -/
def op5Zero : Array Value := #[.int .i64 0, .int .i64 0, .int .i64 0, .int .i64 0, .int .i64 0, .int .i64 0, .int .i64 0, .int .i64 0, .int .i64 0, .string ⟨#[]⟩, .string ⟨#[]⟩, .slice none 0 0, .slice none 0 0, .slice none 0 0]
set_option maxHeartbeats 16000000 in
theorem long5_any (v : Value) (ops : List Op5) (w : World) (hr : IsOps5 w v ops) (yes : Bool) (hy : yes = true ↔ isLong5 ops) :
    Calls Try.prog 23 #[v] w fun e w' => e = .returned (.bool yes) ∧ Below w.heap.size w w' := by
  have HV := Lib.hid hr
  obtain ⟨a, cap, rfl, h1, h2, _⟩ := hr
  have hm : (ops.length : Int) ≤ 9223372036854775807 := by unfold maxLen at h2; omega
  have HY := Lib.hid hy
  clear h1 h2 hy
  go_enter Try.func23, Try.ntmps23
  go_wp2_with fail
  go_loopw [7] (fun vk wr => ∃ k : Nat, vk = .int .i64 k ∧ k ≤ ops.length ∧ Below w.heap.size w wr ∧ ∀ o ∈ ops.take k, Fit o.r ∧ ¬ 200 < o.picks.length) (fun vk _ => ops.length - (intOf vk).toNat)
  case atStart => exact ⟨0, rfl, Nat.zero_le _, Below.refl _ _, fun o ho => by simp at ho⟩
  case round =>
    obtain ⟨k, rfl, hk, hB, hall⟩ := hrel
    have HB := Lib.hid hB
    have HALL := Lib.hid hall
    clear hB hall
    by_cases hlt : k < ops.length
    · obtain ⟨b, off, cap', hva, _, _, hbw, hel⟩ := HV.out.at_ (by omega)
      cases hva
      obtain ⟨ta, tc, pa, pc, ka, kc, hls0, hsz, hrd, hnw, hpm, hc⟩ := hel k hlt
      have HLS := Lib.hid (hls0.keep HB.out)
      have HSZ := Lib.hid hsz
      have HIN : Hid (ops[k] ∈ ops) := List.getElem_mem hlt
      have HTK : Hid (ops.take (k + 1) = ops.take k ++ [ops[k]]) := by unfold Hid; rw [List.take_succ_eq_append_getElem hlt]
      have hp : (ops[k].picks.length : Int) ≤ 9223372036854775807 := by unfold maxLen at hpm; omega
      obtain ⟨c0, c1, c2, c3, c4, c5, c6, c7, c8, c9, c10, c11, c12, c13⟩ := hc.keep HB.out
      clear hls0 hsz hel hc hrd hnw hpm
      generalize ops[k] = o at *
      have hn := Blk.new wr 58 op5Zero
      have N3 := hn.setRow (op5Cells o (.slice ta o.r.txns.length tc) (.slice pa o.r.pages.length pc) (.slice ka o.picks.length kc))
      have hb3 : Below wr.heap.size wr ((wr.alloc (.cells op5Zero 58)).setRow wr.heap.size (op5Cells o (.slice ta o.r.txns.length tc) (.slice pa o.r.pages.length pc) (.slice ka o.picks.length kc))) := below_setRow ((Below.refl _ _).alloc (Nat.le_refl _) _) (Nat.le_refl _) _
      have HB3 := Lib.hid (below2 HB.out hb3)
      have HLS3 := Lib.hid (HLS.out.keep hb3)
      go_upto_region 4 with (refine wpList_store_row rfl 58 _ _ rfl wr.heap.size _ rfl rfl 58 _ hn (by kernel_rfl) rfl (by simp [Value.oneCell']) ?_)
      clear hn hb3 c0 c1 c2 c3 c4 c5 c6 c7 c8 c9 c10 c11 c12 c13 HLS HB hbw
      change Code.wp _ _ _ _ ((wr.alloc (.cells op5Zero 58)).setRow wr.heap.size (op5Cells o (.slice ta o.r.txns.length tc) (.slice pa o.r.pages.length pc) (.slice ka o.picks.length kc)))
      generalize (wr.alloc (.cells op5Zero 58)).setRow wr.heap.size (op5Cells o (.slice ta o.r.txns.length tc) (.slice pa o.r.pages.length pc) (.slice ka o.picks.length kc)) = w3 at *
      generalize wr.heap.size = x at *
      have IR : Hid (IsRec w3 (.agg (recCells o.r (.slice ta o.r.txns.length tc) (.slice pa o.r.pages.length pc))) o.r) := ⟨_, _, rfl, HLS3.out⟩
      have d2 : w3.cell? ⟨x, 2, none⟩ = some (.int .i64 o.r.kind) := N3.cell 2
      have d3 : w3.cell? ⟨x, 3, none⟩ = some (.int .i64 o.r.txn) := N3.cell 3
      have d4 : w3.cell? ⟨x, 4, none⟩ = some (.int .i64 o.r.page) := N3.cell 4
      have d5 : w3.cell? ⟨x, 5, none⟩ = some (.int .i64 o.r.off) := N3.cell 5
      have d6 : w3.cell? ⟨x, 6, none⟩ = some (.int .i64 o.r.prev) := N3.cell 6
      have d7 : w3.cell? ⟨x, 7, none⟩ = some (.int .i64 o.r.next) := N3.cell 7
      have d8 : w3.cell? ⟨x, 8, none⟩ = some (.int .i64 o.r.beg) := N3.cell 8
      have d9 : w3.cell? ⟨x, 9, none⟩ = some (.string o.r.before) := N3.cell 9
      have d10 : w3.cell? ⟨x, 10, none⟩ = some (.string o.r.after) := N3.cell 10
      have d11 : w3.cell? ⟨x, 11, none⟩ = some (.slice ta o.r.txns.length tc) := N3.cell 11
      have d12 : w3.cell? ⟨x, 12, none⟩ = some (.slice pa o.r.pages.length pc) := N3.cell 12
      by_cases hf : Fit o.r
      · have FEW := Lib.hid (few_yes IR.out hf)
        have HF := Lib.hid hf
        clear hf
        go_wp2_with fail
        refine FEW.out.mono ?_
        rintro e w4 ⟨rfl, hb4⟩
        have d13 : w4.cell? ⟨x, 13, none⟩ = some (.slice ka o.picks.length kc) := (N3.keep hb4 N3.lt).cell 13
        have HB4 := Lib.hid (below2 HB3.out hb4)
        clear hb4 HB3 N3 HLS3 IR FEW d2 d3 d4 d5 d6 d7 d8 d9 d10 d11 d12
        by_cases hp2 : 200 < o.picks.length
        · have hp3 : (200 : Int) < o.picks.length := by omega
          have hyes : yes = true := HY.out.2 (.inl ⟨o, HIN.out, .inr hp2⟩)
          go_wp2
          go_ret
          exact ⟨by rw [hyes]; rfl, HB4.out⟩
        · have hp3 : ¬ (200 : Int) < o.picks.length := by omega
          have HALL2 : Hid (∀ q ∈ ops.take (k + 1), Fit q.r ∧ ¬ 200 < q.picks.length) := fun q hq => by
            rw [HTK.out] at hq
            rcases List.mem_append.1 hq with hq | hq
            · exact HALL.out q hq
            · simp at hq; subst hq; exact ⟨HF.out, hp2⟩
          clear HALL hp2
          go_wp2
          go_roundw
          case rel => exact ⟨k + 1, by go_num, by omega, HB4.out, HALL2.out⟩
          case measure => simp [intOf]; omega
      · have FEW := Lib.hid (few_no IR.out HSZ.out hf)
        have hyes : yes = true := HY.out.2 (.inl ⟨o, HIN.out, .inl hf⟩)
        clear hf
        go_wp2_with fail
        refine FEW.out.mono ?_
        rintro e w4 ⟨rfl, hb4⟩
        have HB4 := Lib.hid (below2 HB3.out hb4)
        clear hb4 HB3 N3 HLS3 IR FEW d2 d3 d4 d5 d6 d7 d8 d9 d10 d11 d12
        go_wp2
        go_ret
        exact ⟨by rw [hyes]; rfl, HB4.out⟩
    · obtain rfl : k = ops.length := by omega
      have hyes : yes = decide ((200 : Int) < ops.length) := by
        have hall := HALL.out
        rw [List.take_length] at hall
        have h2 : isLong5 ops ↔ (200 : Int) < ops.length := by
          unfold isLong5
          constructor
          · rintro (⟨o, ho, h⟩ | h)
            · have := hall o ho
              rcases h with h | h
              · exact absurd this.1 h
              · exact absurd h this.2
            · omega
          · intro h; exact .inr (by omega)
        by_cases h : (200 : Int) < ops.length
        · rw [decide_eq_true h]; exact HY.out.2 (h2.2 h)
        · rw [decide_eq_false h]
          cases hyy : yes with
          | true => exact absurd (h2.1 (HY.out.1 hyy)) h
          | false => rfl
      go_wp2
      go_ret
      exact ⟨by rw [hyes]; rfl, HB.out⟩
end Go.Proofs.Ytopihafmajadfaa

/- 'int(uint(i) % m)'; nothing of the program is imported. -/
namespace Go.Proofs.Ytopihafmajadfaa
open Go.RowKit

def modN (i m : Int) : Nat := (IntKind.u64.wrap i % m).toNat
theorem modN_pos (i : Int) : 0 ≤ IntKind.u64.wrap i := by rw [IntKind.wrap_u64]; omega
theorem modN_lt (i m : Int) (hm : 0 < m) : (modN i m : Int) < m := by
  have h1 := Int.emod_lt_of_pos (IntKind.u64.wrap i) hm
  have h2 := Int.emod_nonneg (IntKind.u64.wrap i) (Int.ne_of_gt hm)
  unfold modN; omega
theorem modN_eq (i m : Int) (hm : 0 < m) (hm2 : m ≤ 1000) : wrap64 ((IntKind.u64.wrap i).tmod m) = (modN i m : Int) := by
  have h1 := Int.emod_lt_of_pos (IntKind.u64.wrap i) hm
  have h2 := Int.emod_nonneg (IntKind.u64.wrap i) (Int.ne_of_gt hm)
  rw [Int.tmod_eq_emod_of_nonneg (modN_pos i)]
  unfold modN
  generalize IntKind.u64.wrap i % m = x at *
  unfold wrap64
  omega
theorem size_eq (n : Int) (k : Int) (hk0 : 0 < k) (hk : k ≤ 1000) : ∃ N : Nat, 8 ≤ N ∧ (N : Int) < 8 + k ∧ wrap64 (8 + wrap64 ((IntKind.u64.wrap n).tmod k)) = (N : Int) := by
  have h1 := modN_eq n k hk0 hk
  have h2 := modN_lt n k hk0
  refine ⟨8 + modN n k, by omega, by omega, ?_⟩
  rw [h1]
  unfold wrap64
  omega
end Go.Proofs.Ytopihafmajadfaa

/- careenlaw05.WalKeeps, walked. -/
namespace Go.Proofs.Ytopihafmajadfaa
open Go.RowKit

/-- The list stays beside a log that was opened since. -/
theorem KeptE.fresh {w0 w w' : World} {FD FL FA : Foot} {v : Value} {q : List Qe} (h : KeptE w0 w (Both FD FL) v q) (hb : Below w.heap.size w w') (hA : ∀ b, FA b → w.heap.size ≤ b) : KeptE w0 w' (Both FD FA) v q :=
  ⟨h.own.keep hb, h.old, fun b hv hF => hF.elim (fun h1 => h.apart b hv (.inl h1)) fun h1 => by have := hA b h1; have := (h.own.own.lt b hv).2; omega⟩
theorem KeptE.moreF {w0 w w' : World} {F : Foot} {v : Value} {q : List Qe} (h : KeptE w0 w F v q) (hb : Below w.heap.size w w') : KeptE w0 w' F v q := h.more hb
theorem KeepsAt.more {w0 w w' : World} {gd N k g : Nat} {v : Value} {sf : Nat} (h : KeepsAt w0 w gd N k g v sf) (hb : Below w.heap.size w w') : KeepsAt w0 w' gd N k g v sf := by
  obtain ⟨FD, FL, D, l, q, hL, hC, hK, r⟩ := h.ex
  exact ⟨FD, FL, D, l, q, hL.more hb, hC, hK.more hb, r⟩

set_option maxRecDepth 100000 in
set_option maxHeartbeats 16000000 in
theorem walKeeps_long (n : Int) (v : Value) (ops : List Op5) (w : World) (hv : IsOps5 w v ops) (hlong :  isLong5 ops) :
    Calls Try.prog 5 #[.int .i64 n, v] w fun e w' => e = .returned (.bool true) ∧ Below w.heap.size w w' := by
  have HV := Lib.hid hv
  obtain ⟨N, hN8, hN28, hk⟩ := size_eq n 20 (by omega) (by omega)
  have HK := Lib.hid hk
  have LG := Lib.hid (fun W (hW : Below w.heap.size w W) => long5_any v ops W (hv.keep hW) true (by simp [hlong]))
  clear hlong
  obtain ⟨a, cap, rfl, h1, h2, _⟩ := hv
  have hm : (ops.length : Int) ≤ 9223372036854775807 := by unfold maxLen at h2; omega
  clear h1 h2 hk
  go_enter Try.func5, Try.ntmps5
  go_wp2_with fail
  rw [HK.out]
  refine (new_ok N w (by omega) (by omega)).mono ?_
  rintro e w1 ⟨gd, FD, rfl, hd, hFD, hb1⟩
  have HD := Lib.hid hd
  have HFD := Lib.hid hFD
  have HB1 := Lib.hid hb1
  clear hd hFD hb1
  go_wp2_with fail
  refine (LiveL.make HD.out HFD.out HB1.out 0 N (by omega) (by omega) (by simp [Dk.new])).mono ?_
  rintro e w2 ⟨g, FL, rfl, hl2⟩
  have L2 := Lib.hid hl2
  clear hl2 HD HB1 HFD
  go_wp2_with fail
  refine (awake5 _).mono ?_
  rintro e w3 ⟨rfl, hb3⟩
  have L3 := Lib.hid (L2.out.more hb3)
  clear hb3 L2
  go_wp2_with fail
  refine (LG.out _ L3.out.below).mono ?_
  rintro e w4 ⟨rfl, hb4⟩
  have L4 := Lib.hid (L3.out.more hb4)
  clear hb4 L3 LG
  go_wp2_with fail
  refine (awake5 _).mono ?_
  rintro e w5 ⟨rfl, hb5⟩
  have HB5 := Lib.hid (L4.out.more hb5).below
  clear hb5 L4
  go_wp2
  go_ret
  exact ⟨rfl, HB5.out⟩

set_option maxRecDepth 100000 in
set_option maxHeartbeats 16000000 in
theorem walKeeps_some (n : Int) (v : Value) (ops : List Op5) (w : World) (hv : IsOps5 w v ops) (hlong : ¬ isLong5 ops) :
    Calls Try.prog 5 #[.int .i64 n, v] w fun e w' => e = .returned (.bool true) ∧ Below w.heap.size w w' := by
  have HV := Lib.hid hv
  obtain ⟨N, hN8, hN28, hk⟩ := size_eq n 20 (by omega) (by omega)
  have HK := Lib.hid hk
  have LG := Lib.hid (fun W (hW : Below w.heap.size w W) => long5_any v ops W (hv.keep hW) false (by simp [hlong]))
  have HFIT : Hid (∀ o ∈ ops, Fit o.r ∧ o.picks.length ≤ 200) := fun o ho => ⟨Classical.byContradiction fun h => hlong (.inl ⟨o, ho, .inl h⟩), Nat.not_lt.1 fun h => hlong (.inl ⟨o, ho, .inr h⟩)⟩
  have hm2 : (ops.length : Int) ≤ 200 := Int.not_lt.1 fun h => hlong (.inr (by omega))
  clear hlong
  obtain ⟨a, cap, rfl, h1, h2, _⟩ := hv
  have hm : (ops.length : Int) ≤ 9223372036854775807 := by unfold maxLen at h2; omega
  clear h1 h2 hk
  go_enter Try.func5, Try.ntmps5
  go_wp2_with fail
  rw [HK.out]
  refine (new_ok N w (by omega) (by omega)).mono ?_
  rintro e w1 ⟨gd, FD, rfl, hd, hFD, hb1⟩
  have HD := Lib.hid hd
  have HFD := Lib.hid hFD
  have HB1 := Lib.hid hb1
  clear hd hFD hb1
  go_wp2_with fail
  refine (LiveL.make HD.out HFD.out HB1.out 0 N (by omega) (by omega) (by simp [Dk.new])).mono ?_
  rintro e w2 ⟨g, FL, rfl, hl2⟩
  have L2 := Lib.hid hl2
  clear hl2 HD HB1 HFD
  go_wp2_with fail
  refine (awake5 _).mono ?_
  rintro e w3 ⟨rfl, hb3⟩
  have L3 := Lib.hid (L2.out.more hb3)
  clear hb3 L2
  go_wp2_with fail
  refine (LG.out _ L3.out.below).mono ?_
  rintro e w4 ⟨rfl, hb4⟩
  have L4 := Lib.hid (L3.out.more hb4)
  clear hb4 L3 LG
  go_wp2_with fail
  have START : Hid (KeepsAt w w4 gd N 0 g (.slice none 0 0) 0) := ⟨FD, FL, _, _, [], L4.out, Calm.new hN8 (by omega), KeptE.nil _ _ _, rfl, Nat.le_refl _, Nat.zero_le _⟩
  clear L4
  obtain ⟨i0, hi0, hz0, hz1, hz2⟩ := info_parts info_entry
  have HI := Lib.hid (And.intro hi0 (And.intro hz0 (And.intro hz1 hz2)))
  clear hi0 hz0 hz1 hz2
  go_loopw [7, 8, 9, 10, 49] (fun vl ve va vs vk wr => ∃ (k g sf : Nat), vl = .pointer (some ⟨g, 0, none⟩) ∧ ve = .int .i64 0 ∧ vs = .int .i64 sf ∧ vk = .int .i64 k ∧ k ≤ ops.length ∧ KeepsAt w wr gd N k g va sf) (fun _ _ _ _ vk _ => ops.length - (intOf vk).toNat)
  case atStart => exact ⟨0, g, 0, rfl, rfl, rfl, rfl, Nat.zero_le _, START.out⟩
  case round =>
    obtain ⟨k, gl, sf, rfl, rfl, rfl, rfl, hk, hst⟩ := hrel
    have ST := Lib.hid hst
    clear hst START
    obtain ⟨FD2, FL2, D, lg, q, hL, hC, hK, hq, hql, hsf⟩ := ST.out.ex
    have HL := Lib.hid hL
    have HC := Lib.hid hC
    have HK := Lib.hid hK
    have HQ := Lib.hid hq
    have HSF := Lib.hid hsf
    have HB := Lib.hid hL.below
    obtain ⟨qa, qc, hqv⟩ := own_slice hK.own.own
    subst hqv
    have hqi : (q.length : Int) ≤ 200 := by omega
    clear hL hC hK hq hsf ST
    by_cases hlt : k < ops.length
    · obtain ⟨b, off, cap', hva, _, _, hbw, hel⟩ := HV.out.at_ (by omega)
      cases hva
      obtain ⟨ta, tc, pa, pc, ka, kc, hls0, hsz, hrd, hnw, hpm, hc⟩ := hel k hlt
      have HLS := Lib.hid (hls0.keep HB.out)
      have HSZ := Lib.hid hsz
      have HFP := Lib.hid (HFIT.out _ (List.getElem_mem hlt))
      have HOLD := Lib.hid hls0.old
      have HRD := Lib.hid hrd
      have HPK : Hid (ops[k].picks ≠ [] → ∀ b, (Value.slice ka ops[k].picks.length kc).ownBlock = some b → b < w.heap.size) := fun hp b hb => by
        rcases hrd.cases with ⟨h0, _⟩ | ⟨b', o', c', e', _, _, hlt', _⟩
        · exact absurd (by simpa [byteVs] using h0) hp
        · rw [byteVs_len] at e'
          cases e'
          simp only [Value.ownBlock, Option.some.injEq] at hb
          omega
      have hx0 : Hid (¬ Both FD2 FL2 wr.heap.size) := fun hF => hF.elim (fun h => by have := HL.out.sys.disk.lt _ h; omega) (fun h => by have := HL.out.sys.log.lt _ h; omega)
      obtain ⟨c0, c1, c2, c3, c4, c5, c6, c7, c8, c9, c10, c11, c12, c13⟩ := hc.keep HB.out
      clear hls0 hsz hel hc hrd hnw hpm
      generalize ops[k] = o at *
      have hn := Blk.new wr 58 op5Zero
      have N3 := hn.setRow (op5Cells o (.slice ta o.r.txns.length tc) (.slice pa o.r.pages.length pc) (.slice ka o.picks.length kc))
      have hb3 : Below wr.heap.size wr ((wr.alloc (.cells op5Zero 58)).setRow wr.heap.size (op5Cells o (.slice ta o.r.txns.length tc) (.slice pa o.r.pages.length pc) (.slice ka o.picks.length kc))) := below_setRow ((Below.refl _ _).alloc (Nat.le_refl _) _) (Nat.le_refl _) _
      have HL3 := Lib.hid (HL.out.more hb3)
      have HK3 := Lib.hid (HK.out.more hb3)
      have HLS3 := Lib.hid (HLS.out.keep hb3)
      go_upto_region 11 with (refine wpList_store_row rfl 58 _ _ rfl wr.heap.size _ rfl rfl 58 _ hn (by kernel_rfl) rfl (by simp [Value.oneCell']) ?_)
      clear hn hb3 c0 c1 c2 c3 c4 c5 c6 c7 c8 c9 c10 c11 c12 c13 HLS HL HB hbw HK
      change Code.wp _ _ _ _ ((wr.alloc (.cells op5Zero 58)).setRow wr.heap.size (op5Cells o (.slice ta o.r.txns.length tc) (.slice pa o.r.pages.length pc) (.slice ka o.picks.length kc)))
      generalize (wr.alloc (.cells op5Zero 58)).setRow wr.heap.size (op5Cells o (.slice ta o.r.txns.length tc) (.slice pa o.r.pages.length pc) (.slice ka o.picks.length kc)) = w3 at *
      generalize wr.heap.size = x at *
      have IR : Hid (IsRec w3 (.agg (recCells o.r (.slice ta o.r.txns.length tc) (.slice pa o.r.pages.length pc))) o.r) := ⟨_, _, rfl, HLS3.out⟩
      have d0 : w3.cell? ⟨x, 0, none⟩ = some (.int .i64 o.kind) := N3.cell 0
      have d1 : w3.cell? ⟨x, 1, none⟩ = some (.int .i64 o.n) := N3.cell 1
      have d2 : w3.cell? ⟨x, 2, none⟩ = some (.int .i64 o.r.kind) := N3.cell 2
      have d3 : w3.cell? ⟨x, 3, none⟩ = some (.int .i64 o.r.txn) := N3.cell 3
      have d4 : w3.cell? ⟨x, 4, none⟩ = some (.int .i64 o.r.page) := N3.cell 4
      have d5 : w3.cell? ⟨x, 5, none⟩ = some (.int .i64 o.r.off) := N3.cell 5
      have d6 : w3.cell? ⟨x, 6, none⟩ = some (.int .i64 o.r.prev) := N3.cell 6
      have d7 : w3.cell? ⟨x, 7, none⟩ = some (.int .i64 o.r.next) := N3.cell 7
      have d8 : w3.cell? ⟨x, 8, none⟩ = some (.int .i64 o.r.beg) := N3.cell 8
      have d9 : w3.cell? ⟨x, 9, none⟩ = some (.string o.r.before) := N3.cell 9
      have d10 : w3.cell? ⟨x, 10, none⟩ = some (.string o.r.after) := N3.cell 10
      have d11 : w3.cell? ⟨x, 11, none⟩ = some (.slice ta o.r.txns.length tc) := N3.cell 11
      have d12 : w3.cell? ⟨x, 12, none⟩ = some (.slice pa o.r.pages.length pc) := N3.cell 12
      have d13 : w3.cell? ⟨x, 13, none⟩ = some (.slice ka o.picks.length kc) := N3.cell 13
      go_upto_block 2 with fail
      go_cut [7, 8, 9, 10, 13, 14, 15, 49] from 49 to 127 (fun s7 s8 s9 s10 s13 s14 s15 s49 wx => s8 = .int .i64 0 ∧ s49 = .int .i64 k ∧ ∃ g' sf' : Nat, s7 = .pointer (some ⟨g', 0, none⟩) ∧ s10 = .int .i64 sf' ∧ KeepsAt w wx gd N (k + 1) g' s9 sf')
      case first =>
        by_cases k1 : o.kind = 1
        · go_wp2_with fail
          refine (HL3.out.append IR.out HFP.out.1).mono ?_
          rintro e w5 ⟨rfl, FL5, hL5, st5⟩
          have N5 : Blk w5 x 58 (op5Cells o (.slice ta o.r.txns.length tc) (.slice pa o.r.pages.length pc) (.slice ka o.picks.length kc)) := (st5.block x N3.lt hx0.out).trans N3
          have HL5 := Lib.hid hL5
          have HK5 := Lib.hid (HK3.out.step st5 HL3.out.new)
          have HLS5 := Lib.hid (HLS3.out.keepA st5.only (fun hr b hb hF => by have := HOLD.out.1 hr b hb; have := HL3.out.new b hF; omega) (fun hr b hb hF => by have := HOLD.out.2 hr b hb; have := HL3.out.new b hF; omega))
          clear d0 d1 d2 d3 d4 d5 d6 d7 d8 d9 d10 d11 d12 d13 N3 HL3 HK3 HLS3 IR hL5 st5 hx0
          by_cases he : (lg.app o.r).2.1 = 0
          · obtain ⟨hmay, hpe, e1, e2⟩ := Wl.app_zero he
            rw [e2] at HL5
            have HC5 := Lib.hid ((HC.out.put hmay).mono (E' := k + 1 + 1) (by omega))
            have HPA := Lib.hid (Wl.putAll hpe HC.out.ok.fl)
            have HSF5 : Hid (sf ≤ (lg.put o.r).cnt ((lg.put o.r).first - 1)) := by unfold Hid; rw [Wl.cnt_put HC.out.ok o.r HC.out.stands.low]; exact HSF.out
            rw [he, e1]
            clear he e1 e2 hpe HC hmay HSF
            generalize lg.putAt o.r = A at *
            generalize lg.put o.r = l5 at *
            obtain ⟨hi0, hz0, hz1, hz2⟩ := id HI.out
            have B9 : Below w5.heap.size w5 (w5.alloc (.cells (Qe.cells ⟨A, o.r, .slice ta o.r.txns.length tc, .slice pa o.r.pages.length pc⟩).toArray 45)) := (Below.refl _ _).alloc (Nat.le_refl _) _
            have HL9 := Lib.hid (HL5.out.more B9)
            have HK9 := Lib.hid (HK5.out.more B9)
            have HLS9 := Lib.hid (HLS5.out.keep B9)
            have hq9 := HL9.out.below.size
            have f2 : w5.cell? ⟨x, 2, none⟩ = some (.int .i64 o.r.kind) := N5.cell 2
            have f3 : w5.cell? ⟨x, 3, none⟩ = some (.int .i64 o.r.txn) := N5.cell 3
            have f4 : w5.cell? ⟨x, 4, none⟩ = some (.int .i64 o.r.page) := N5.cell 4
            have f5 : w5.cell? ⟨x, 5, none⟩ = some (.int .i64 o.r.off) := N5.cell 5
            have f6 : w5.cell? ⟨x, 6, none⟩ = some (.int .i64 o.r.prev) := N5.cell 6
            have f7 : w5.cell? ⟨x, 7, none⟩ = some (.int .i64 o.r.next) := N5.cell 7
            have f8 : w5.cell? ⟨x, 8, none⟩ = some (.int .i64 o.r.beg) := N5.cell 8
            have f9 : w5.cell? ⟨x, 9, none⟩ = some (.string o.r.before) := N5.cell 9
            have f10 : w5.cell? ⟨x, 10, none⟩ = some (.string o.r.after) := N5.cell 10
            have f11 : w5.cell? ⟨x, 11, none⟩ = some (.slice ta o.r.txns.length tc) := N5.cell 11
            have f12 : w5.cell? ⟨x, 12, none⟩ = some (.slice pa o.r.pages.length pc) := N5.cell 12
            clear B9 HL5 HK5 HLS5
            go_wp2_with (at_builtin; refine wpList_append_lies _ rfl (.tmp 106) (.tmp 111) 32 rfl w.heap.size 45 i0 entryZero 12 144 Try.underlying32 hi0 hz0 hz1 hz2 rfl (by decide) _ _ _ rfl HK9.out.own.own ⟨w5.heap.size, 0, none⟩ 1 1 (Qe.cells ⟨A, o.r, .slice ta o.r.txns.length tc, .slice pa o.r.pages.length pc⟩) rfl rfl (World.news_of_block (heap_alloc_new w5 _)) (by simp [Qe.cells, recCells, Value.oneCell']) (by omega) (by simp only [maxLen]; omega) (by omega) hq9 _ rfl ?_)
            intro gg cap'' w10 hown hgrow hat hlt10
            have HP := Lib.hid (HK9.out.pushed HL9.out HLS9.out HOLD.out hown hgrow (by rw [World.size_alloc]; exact hat))
            clear hown hgrow hat HL9 HK9 HLS9 f2 f3 f4 f5 f6 f7 f8 f9 f10 f11 f12 N5
            go_wp2_with fail
            go_meet
            exact ⟨rfl, rfl, gl, sf, rfl, rfl, FD2, FL5, D, l5, _, HP.out.1, HC5.out, HP.out.2, by rw [List.map_append, HQ.out, HPA.out]; rfl, by rw [List.length_append, List.length_singleton]; omega, HSF5.out⟩
          · have hsame := Wl.app_same he
            rw [hsame] at HL5
            have he2 : ((lg.app o.r).2.1 : Int) ≠ 0 := by omega
            have he3 : (((lg.app o.r).2.1 : Int) == 0) = false := by simpa using he2
            generalize (lg.app o.r).2.1 = er at *
            generalize (lg.app o.r).1 = at5 at *
            clear N5
            go_wp2_with fail
            go_meet
            exact ⟨rfl, rfl, gl, sf, rfl, rfl, FD2, FL5, D, lg, q, HL5.out, HC.out.mono (by omega), HK5.out, HQ.out, by omega, HSF.out⟩
        by_cases k2 : o.kind = 2
        · have FLU := Lib.hid (HL3.out.flush (HC.out.hep (by omega)) HC.out.hw)
          have herr := HC.out.err
          have hlog := HC.out.log (by omega)
          have HC5 := Lib.hid ((HC.out.flush (by omega)).mono (E' := k + 1 + 1) (by omega))
          have hall : (lg.flush D).2.1.all = lg.all := by rw [hlog]; rfl
          have hcnt : q.length ≤ (lg.flush D).2.1.cnt ((lg.flush D).2.1.first - 1) := by
            have hlen : q.length = lg.all.length := by rw [← HQ.out, List.length_map]
            rw [hlen, ← hall]
            refine Nat.le_of_eq (Wl.cnt_all _ ?_).symm
            rw [hlog]
            show lg.secs.length ≤ lg.end_ - 1
            have := HC.out.ok.l1
            unfold Wl.end_
            omega
          have HALL := Lib.hid hall
          have HCNT := Lib.hid hcnt
          rw [herr] at FLU
          clear hall hcnt hlog herr
          go_wp2_with fail
          refine FLU.out.mono ?_
          rintro e w5 ⟨rfl, FD5, hL5, st5⟩
          have HL5 := Lib.hid hL5
          have HK5 := Lib.hid (HK3.out.step st5 HL3.out.new)
          clear d0 d1 d2 d3 d4 d5 d6 d7 d8 d9 d10 d11 d12 d13 N3 HL3 HK3 HLS3 IR hL5 st5 hx0 FLU HC
          generalize lg.flush D = ap at *
          go_wp2_with fail
          go_meet
          exact ⟨rfl, rfl, gl, q.length, rfl, rfl, FD5, FL2, ap.1, ap.2.1, q, HL5.out, HC5.out, HK5.out, by rw [HALL.out]; exact HQ.out, by omega, HCNT.out⟩
        by_cases k3 : o.kind = 3
        · clear d1 d2 d3 d4 d5 d6 d7 d8 d9 d10 d11 d12 d13 N3
          go_wp2_with fail
          go_meet
          exact ⟨rfl, rfl, gl, sf, rfl, rfl, FD2, FL2, D, lg, q, HL3.out, HC.out.mono (by omega), HK3.out, HQ.out, by omega, HSF.out⟩
        have h12 := modN_eq o.n 12 (by omega) (by omega)
        have h12l := modN_lt o.n 12 (by omega)
        generalize modN o.n 12 = fz at *
        have H12 := Lib.hid h12
        clear d2 d3 d4 d5 d6 d7 d8 d9 d10 d11 d12 d13 h12
        go_wp2_with fail
        rw [H12.out]
        refine (HL3.out.arm (fz : Int) (by omega)).mono ?_
        rintro e w5 ⟨rfl, hL5, st5⟩
        have N5 : Blk w5 x 58 (op5Cells o (.slice ta o.r.txns.length tc) (.slice pa o.r.pages.length pc) (.slice ka o.picks.length kc)) := (st5.block x N3.lt hx0.out).trans N3
        have HL5 := Lib.hid hL5
        have HK5 := Lib.hid (HK3.out.step st5 HL3.out.new)
        obtain ⟨m, c1, c2, hc3, hc4, hc5⟩ := HC.out.crashed (by omega) (fz : Int) o.picks hN8 (by omega)
        have c3 := Lib.hid hc3
        have c4 := Lib.hid hc4
        have c5 := Lib.hid hc5
        have hmle := Wl.cnt_le lg m
        have hsf1 : sf ≤ lg.cnt m := Nat.le_trans HSF.out c1
        have HQALL : Hid (q.length = lg.all.length) := by unfold Hid; rw [← HQ.out, List.length_map]
        have FLU := Lib.hid (HL5.out.flush (HC.out.hep (by omega)) HC.out.hw)
        clear d0 d1 N3 HL3 HK3 HLS3 IR hL5 st5 hc3 hc4 hc5 c1 HSF HC
        go_wp2_with fail
        refine FLU.out.mono ?_
        rintro e w6 ⟨rfl, FDx, hL6, st6⟩
        have NX := Lib.hid (show Blk w6 x 58 (op5Cells o (.slice ta o.r.txns.length tc) (.slice pa o.r.pages.length pc) (.slice ka o.picks.length kc)) from (st6.block x N5.lt hx0.out).trans N5)
        have LX := Lib.hid hL6
        have KX := Lib.hid (HK5.out.step st6 HL5.out.new)
        clear HL5 HK5 N5 hL6 st6 FLU hx0
        generalize lg.flush (D.arm (fz : Int)) = F at *
        have d13x : w6.cell? ⟨x, 13, none⟩ = some (.slice ka o.picks.length kc) := NX.out.cell 13
        by_cases hF : F.2.2 = 0
        · have hcm := c2 hF
          have hsf2 : q.length ≤ lg.cnt m := by have := HQALL.out; omega
          rw [hF]
          clear c2 hcm hF HQALL
          go_wp2_with fail
          refine (LX.out.crash _ o.picks (HRD.out.keep LX.out.below) HPK.out).mono ?_
          rintro e wy ⟨rfl, hLy, sty⟩
          have LY := Lib.hid hLy
          have KY := Lib.hid (KX.out.step sty LX.out.new)
          clear d13x hLy sty LX KX NX
          go_wp2_with fail
          refine (LY.out.open_ rfl 0 N 1 (by omega) (by omega) (by rw [c3.out.len]; omega) (by omega) (by omega)).mono ?_
          rintro e wo ⟨ga, FA, rfl, hLo, hFA, hbo⟩
          have LO := Lib.hid hLo
          have KO : Hid (KeptE w wo (Both FDx FA) (.slice qa q.length qc) q) := (KY.out.fresh hbo hFA)
          clear hLo hFA hbo LY KY
          generalize (F.1.crash o.picks) = DY at *
          generalize Wl.opened DY 0 N 1 = lo at *
          have HSZ0 := Lib.hid (Wl.scan_zero c3.out.ok)
          go_wp2_with fail
          refine (scan_any LO.out.sys.log 0 (by decide)).mono ?_
          rintro e ws ⟨vs', qs, rfl, hqs, hos, hbs, -⟩
          obtain ⟨ra, rc, hvs⟩ := own_slice hos.own
          have hlen : qs.length = lg.cnt m := by
            have h := congrArg List.length hqs
            rw [List.length_map, HSZ0.out, c4.out, List.length_take, Nat.min_eq_left hmle] at h
            exact h
          rw [hlen] at hvs
          subst hvs
          have LO2 := Lib.hid (LO.out.more hbs)
          have KO2 := Lib.hid (KO.out.more hbs)
          clear hqs hos hbs hlen LO KO HSZ0
          have hmq : lg.cnt m ≤ q.length := by rw [← List.length_map (f := Qe.ent), HQ.out]; exact hmle
          generalize lg.cnt m = K at *
          have hK1 : ¬ (K : Int) < (q.length : Int) := by omega
          have hK2 : ¬ (q.length : Int) < K := by omega
          have hKi : (K : Int) ≤ 200 := by omega
          rcases own_any KO2.out.own.own with ⟨hq0, hq1, hq2⟩ | ⟨gq, cq, hq0, hq1, hq2⟩
          · have hK0 : K = 0 := by omega
            subst hK0
            have hqn : q = [] := List.eq_nil_of_length_eq_zero hq1
            subst hqn
            simp only [List.length_nil] at hq0
            injection hq0 with eq1 eq2 eq3
            subst eq1 eq3
            go_wp2_with fail
            go_meet
            exact ⟨rfl, rfl, ga, 0, rfl, rfl, FDx, FA, DY, lo, [], LO2.out, c3.out, KO2.out, by rw [c4.out, List.take_zero]; rfl, by simp, c5.out⟩
          · injection hq0 with eq1 eq2 eq3
            subst eq1 eq3
            have hcq : (K : Int) ≤ qc := by omega
            have KC := Lib.hid (KO2.out.cut K hmq)
            clear KO2
            go_wp2_with fail
            go_meet
            exact ⟨rfl, rfl, ga, K, rfl, rfl, FDx, FA, DY, lo, q.take K, LO2.out, c3.out, KC.out, by rw [List.map_take, HQ.out, c4.out], by rw [List.length_take]; omega, c5.out⟩
        · have hF2 : (F.2.2 : Int) ≠ 0 := by omega
          have hF3 : ((F.2.2 : Int) == 0) = false := by simpa using hF2
          clear c2 hF HQALL
          generalize F.2.2 = fe at *
          go_wp2_with fail
          refine (LX.out.crash _ o.picks (HRD.out.keep LX.out.below) HPK.out).mono ?_
          rintro e wy ⟨rfl, hLy, sty⟩
          have LY := Lib.hid hLy
          have KY := Lib.hid (KX.out.step sty LX.out.new)
          clear d13x hLy sty LX KX NX
          go_wp2_with fail
          refine (LY.out.open_ rfl 0 N 1 (by omega) (by omega) (by rw [c3.out.len]; omega) (by omega) (by omega)).mono ?_
          rintro e wo ⟨ga, FA, rfl, hLo, hFA, hbo⟩
          have LO := Lib.hid hLo
          have KO : Hid (KeptE w wo (Both FDx FA) (.slice qa q.length qc) q) := (KY.out.fresh hbo hFA)
          clear hLo hFA hbo LY KY
          generalize (F.1.crash o.picks) = DY at *
          generalize Wl.opened DY 0 N 1 = lo at *
          have HSZ0 := Lib.hid (Wl.scan_zero c3.out.ok)
          go_wp2_with fail
          refine (scan_any LO.out.sys.log 0 (by decide)).mono ?_
          rintro e ws ⟨vs', qs, rfl, hqs, hos, hbs, -⟩
          obtain ⟨ra, rc, hvs⟩ := own_slice hos.own
          have hlen : qs.length = lg.cnt m := by
            have h := congrArg List.length hqs
            rw [List.length_map, HSZ0.out, c4.out, List.length_take, Nat.min_eq_left hmle] at h
            exact h
          rw [hlen] at hvs
          subst hvs
          have LO2 := Lib.hid (LO.out.more hbs)
          have KO2 := Lib.hid (KO.out.more hbs)
          clear hqs hos hbs hlen LO KO HSZ0
          have hmq : lg.cnt m ≤ q.length := by rw [← List.length_map (f := Qe.ent), HQ.out]; exact hmle
          generalize lg.cnt m = K at *
          have hK1 : ¬ (K : Int) < (sf : Int) := by omega
          have hK2 : ¬ (q.length : Int) < K := by omega
          have hKi : (K : Int) ≤ 200 := by omega
          rcases own_any KO2.out.own.own with ⟨hq0, hq1, hq2⟩ | ⟨gq, cq, hq0, hq1, hq2⟩
          · have hK0 : K = 0 := by omega
            subst hK0
            have hqn : q = [] := List.eq_nil_of_length_eq_zero hq1
            subst hqn
            simp only [List.length_nil] at hq0
            injection hq0 with eq1 eq2 eq3
            subst eq1 eq3
            go_wp2_with fail
            go_meet
            exact ⟨rfl, rfl, ga, 0, rfl, rfl, FDx, FA, DY, lo, [], LO2.out, c3.out, KO2.out, by rw [c4.out, List.take_zero]; rfl, by simp, c5.out⟩
          · injection hq0 with eq1 eq2 eq3
            subst eq1 eq3
            have hcq : (K : Int) ≤ qc := by omega
            have KC := Lib.hid (KO2.out.cut K hmq)
            clear KO2
            go_wp2_with fail
            go_meet
            exact ⟨rfl, rfl, ga, K, rfl, rfl, FDx, FA, DY, lo, q.take K, LO2.out, c3.out, KC.out, by rw [List.map_take, HQ.out, c4.out], by rw [List.length_take]; omega, c5.out⟩
      case rest =>
        obtain ⟨rfl, rfl, g', sf', rfl, rfl, hst⟩ := hcut
        have ST := Lib.hid hst
        clear hst N3 HL3 HK3 HLS3 IR HC HQ HSF HSZ HFP HRD HPK HOLD hx0 d0 d1 d2 d3 d4 d5 d6 d7 d8 d9 d10 d11 d12 d13 hql hqi
        obtain ⟨FD6, FL6, D6, l6, q6, hL, hC, hK, hq, hql, hsf⟩ := ST.out.ex
        have HL := Lib.hid hL
        have HK := Lib.hid hK
        have HQ := Lib.hid hq
        have HOK := Lib.hid (Wl.scan_zero hC.ok)
        clear hL hC hK hq hsf
        go_wp2_with fail
        refine (scan_any HL.out.sys.log 0 (by decide)).mono ?_
        rintro e w11 ⟨v11, q11, rfl, hq11, ho11, hb11, -⟩
        rw [HOK.out] at hq11
        have E1 := Lib.hid (ho11.isEnts)
        rw [hq11] at E1
        have HK11 := Lib.hid (HK.out.more hb11)
        have HST11 := Lib.hid (ST.out.more hb11)
        have E2 := Lib.hid (HK11.out.own.isEnts)
        rw [HQ.out] at E2
        clear ho11 hb11 hq11 HL HK ST
        go_wp2_with fail
        refine (refSameAll_any E1.out E2.out true (by simp)).mono ?_
        rintro e w12 ⟨rfl, hb12⟩
        have FIN := Lib.hid (HST11.out.more hb12)
        clear hb12 HST11 HK11 E1 E2
        go_wp2_with fail
        go_roundw
        case rel => exact ⟨k + 1, g', sf', rfl, rfl, rfl, by go_num, by omega, FIN.out⟩
        case measure => simp [intOf]; omega
    · obtain rfl : k = ops.length := by omega
      go_wp2
      go_ret
      exact ⟨rfl, HB.out⟩
theorem walkWalKeeps (n : Int) (v : Value) (ops : List Op5) (w : World) (_ : (Lit.int .i64 n).wf = true) (hv : IsOps5 w v ops) :
    Calls Try.prog 5 #[.int .i64 n, v] w fun e w' => e = .returned (.bool true) ∧ Below w.heap.size w w' := by
  by_cases h : isLong5 ops
  · exact walKeeps_long n v ops w hv h
  · exact walKeeps_some n v ops w hv h
end Go.Proofs.Ytopihafmajadfaa

/- careenlaw05.WalKeeps: it returns true for every input, and leaves its arguments as they were: the row's proof, out of the walk.
   Conditions: none beside the row's own (each argument is read as data). -/
namespace Go.Proofs.Ytopihafmajadfaa.walKeeps
open Go.ChangeShapes Go.WideShapes Go.ChangeAt Go.RowKit Go.Joins
open Go.ChangeMaps (open_string shut_string)
set_option linter.unusedVariables false

theorem own : ownKnob Try.prog.godebug = none := by kernel_rfl
theorem laidOut : laidOutB Try.prog = true := by kernel_rfl

set_option maxRecDepth 100000 in
theorem lifted (os : Os) (started : os.Started) (H : Type) (enc : TypeId × Value → H) :
    ReturnsInHanded {} Try.checked os 5 .any (Rows.walKeepsSpec.pre6 enc Try.prog Try.f5 Rows.walKeepsRow.domain false) (Rows.walKeepsSpec.post enc Try.prog Try.f5 false true false false) := by
  refine returnsInHanded_of_change (C := Try.checked) own started (by kernel_rfl) Try.func5
    (ChangeSpec.witness6 (enc := enc) (C := Try.checked) false ⟨#[], #[.int .i64 0, .slice none 0 0], []⟩ 8 (by kernel_rfl) (by kernel_rfl) (by kernel_rfl) (by kernel_rfl)) ?_
  intro W base args ds gs before hval0 hW hcnd _
  have hval : ∀ (j : Nat) t v, Try.f5.params[j]? = some t → args[j]? = some v → Value.okWide Try.prog W .any base t v := hval0
  have hW' := hW
  obtain ⟨p, q, hA0, hV, rfl, hfz, hnd⟩ := hW
  have hA : DataW.TrodAll enc Try.prog W 0 (fun _ => true) true Try.f5.params.toList args.toList ds p := hA0
  rw [Try.params5] at hA hval
  obtain ⟨v0, vs0, d0, ds0, p0, q0, hargs, rfl, rfl, h0, r0⟩ := trodAll_cons hA
  obtain ⟨v1, vs1, d1, ds1, p1, q1, rfl, rfl, rfl, h1, r1⟩ := trodAll_cons r0
  obtain ⟨rfl, rfl, rfl⟩ := trodAll_nil r1
  obtain rfl : args = #[v0, v1] := by cases args; simp_all
  obtain ⟨rfl, rfl⟩ := trodVars_none hV
  have k0 := h0
  have lt0 : ∀ x ∈ p0, x.block < W.heap.size := by obtain ⟨m, hm⟩ := k0; exact DataW.trod_lt m _ _ _ hm
  have k1 := h1
  have lt1 : ∀ x ∈ p1, x.block < W.heap.size := by obtain ⟨m, hm⟩ := k1; exact DataW.trod_lt m _ _ _ hm
  obtain ⟨a0, rfl, rfl, rfl, w0⟩ := open_int Try.underlying3 (hval 0 3 v0 rfl rfl) h0
  obtain ⟨a1, w1⟩ := open_ops5 (hval 1 47 v1 rfl rfl) h1
  clear hA0 hval0
  refine (walkWalKeeps a0 v1 a1 W w0 w1).mono fun e W' ⟨he, bel⟩ => ?_
  subst he
  exact ⟨_, rfl, _, _, _, [], _, [], hW', trodAll_mk1 (shut_bool Try.underlying4 _), (trodAll_cons_mk (Below.trod laidOut (by kernel_rfl) (of_decide_eq_true (by kernel_rfl)) k0 bel lt0) (trodAll_cons_mk (Below.trod laidOut (by kernel_rfl) (of_decide_eq_true (by kernel_rfl)) k1 bel lt1) trodAll_mk0)), rfl, bel.frame _, fun h => by cases h⟩

theorem over : Rows.walKeepsRow.holds Try.pinned (OpenSpec.ofChange Rows.walKeepsSpec) :=
  OpenClaim.holds_of_wide 5 Try.f5 rfl rfl rfl rfl rfl rfl rfl ⟨rfl, rfl, rfl, rfl, rfl⟩ rfl rfl rfl rfl rfl (by kernel_rfl) Try.func5 (by kernel_rfl)
    (of_decide_eq_true (by kernel_rfl)) (by unfold Func.isWrapper; first | (rw [if_pos (by decide +kernel)]; kernel_rfl) | (rw [if_neg (by decide +kernel)]; exact ⟨rfl, rfl⟩))
    (fun os started H enc _ => lifted os started H enc)

/-- The given statement. -/
theorem proved : Rows.WalKeepsSaid := over
end Go.Proofs.Ytopihafmajadfaa.walKeeps
