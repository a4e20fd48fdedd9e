/- careenlaw08.PoolHolds: it returns true for every input, and leaves its arguments as they were: the row's proof, out of the walk.
   Conditions: none beside the row's own (each argument is read as data). -/
import Derived.Test.YtpiaknmjepjglaaGreatBase
import Derived.IntWalk
import Derived.Test.YtpiaknmjepjglaaGreatJpoE
import Derived.Test.YtpiaknmjepjglaaGreatOpen
import Derived.Test.YtpiaknmjepjglaaGreatOpenL
import Derived.Test.YtpiaknmjepjglaaGreatOpenRec
import Derived.Test.YtpiaknmjepjglaaGreatRecM2
import Derived.Test.YtpiaknmjepjglaaGreatFew
import Derived.Test.YtpiaknmjepjglaaGreatJst
import Derived.ProofKit
import Derived.OpenShut
import Derived.ShutString
import Derived.ChangeOld
import Derived.Below
import Derived.Lib.SmallJoins
/- 'int(uint(i) % m)'; nothing of the program is imported. -/
namespace Go.Proofs.YtpiaknmjepjglaaGreat
open Go.RowKit

def modN (i m : Int) : Nat := (IntKind.u64.wrap i % m).toNat
theorem modN_pos (i : Int) : 0 ≤ IntKind.u64.wrap i := by rw [IntKind.wrap_u64]; omega
theorem modN_lt (i m : Int) (hm : 0 < m) : (modN i m : Int) < m := by
  have h1 := Int.emod_lt_of_pos (IntKind.u64.wrap i) hm
  have h2 := Int.emod_nonneg (IntKind.u64.wrap i) (Int.ne_of_gt hm)
  unfold modN; omega
theorem modN_eq (i m : Int) (hm : 0 < m) (hm2 : m ≤ 1000000000) : wrap64 ((IntKind.u64.wrap i).tmod m) = (modN i m : Int) := by
  have h1 := Int.emod_lt_of_pos (IntKind.u64.wrap i) hm
  have h2 := Int.emod_nonneg (IntKind.u64.wrap i) (Int.ne_of_gt hm)
  rw [Int.tmod_eq_emod_of_nonneg (modN_pos i)]
  unfold modN
  generalize IntKind.u64.wrap i % m = x at *
  unfold wrap64
  omega
theorem size_eq (n : Int) (k : Int) (hk0 : 0 < k) (hk : k ≤ 1000) : ∃ N : Nat, 8 ≤ N ∧ (N : Int) < 8 + k ∧ wrap64 (8 + wrap64 ((IntKind.u64.wrap n).tmod k)) = (N : Int) := by
  have h1 := modN_eq n k hk0 (by omega)
  have h2 := modN_lt n k hk0
  refine ⟨8 + modN n k, by omega, by omega, ?_⟩
  rw [h1]
  unfold wrap64
  omega
end Go.Proofs.YtpiaknmjepjglaaGreat

/- careenlaw08: what is made of sizes that may not be; what stays as it is beside a pool. -/
namespace Go.Proofs.YtpiaknmjepjglaaGreat
open Go.RowKit

/-- Sizes that may be. -/
def Sizes8 (p f g : Int) : Prop := (1 ≤ p ∧ p ≤ 8) ∧ (1 ≤ f ∧ f ≤ 8) ∧ (8 ≤ g ∧ g ≤ 64)
section
variable {w : World}
set_option maxRecDepth 100000 in
set_option maxHeartbeats 8000000 in
theorem made_bad (p f g : Int) (hz : ¬ Sizes8 p f g) :
    Calls Tryz.prog 8 #[.agg #[.int .i64 p, .int .i64 f, .int .i64 g]] w fun e w' => ∃ v0 v1 v2, e = .returned (.tuple #[v0, v1, v2, .pointer none, .int .i64 1]) ∧ Below w.heap.size w w' := by
  have X0 := Blk.new w 23 #[.int .i64 p, .int .i64 f, .int .i64 g]
  have hb0 := (Below.refl w.heap.size w).alloc (Nat.le_refl _) (.cells #[.int .i64 p, .int .i64 f, .int .i64 g] 23)
  go_enter Tryz.func8, Tryz.ntmps8
  go_wp2_with fail
  have HB0 := Lib.hid hb0
  have HX0 := Lib.hid X0
  clear hb0 X0
  generalize w.alloc (.cells #[.int .i64 p, .int .i64 f, .int .i64 g] 23) = w1 at *
  refine (new_ok 100 w1 (by omega) (by omega)).mono ?_
  rintro e w2 ⟨gd, FD, rfl, hd, hFD, hb2⟩
  have HD := Lib.hid hd
  have HB2 := Lib.hid (below2 HB0.out hb2)
  have x2 := HX0.out.keep hb2 HX0.out.lt
  have c20 := x2.cell 0
  simp at c20
  clear hd hFD hb2 HB0 HX0
  by_cases hp : 1 ≤ p ∧ p ≤ 8
  · obtain ⟨P, rfl⟩ := Int.eq_ofNat_of_zero_le (show 0 ≤ p by omega)
    have NS := Lib.hid (soNew_ok HD.out 0 P (by omega) (by omega) (by simp [Dk.new]; omega))
    go_wp2_with fail
    refine NS.out.mono ?_
    rintro e w3 ⟨s, rfl, hs, hge, hb3⟩
    have HS := Lib.hid hs
    have HB3 := Lib.hid (below2 HB2.out hb3)
    have x3 := x2.keep hb3 x2.lt
    have c32 := x3.cell 2
    simp at c32
    clear hs hge hb3 HB2 c20 HD NS
    by_cases hg : 8 ≤ g ∧ g ≤ 64
    · obtain ⟨G, rfl⟩ := Int.eq_ofNat_of_zero_le (show 0 ≤ g by omega)
      have hf : f < 1 ∨ 8 < f := by unfold Sizes8 at hz; omega
      have NL := Lib.hid (logNew_ok HS.out.disk 30 G (by omega) (by omega) (by simp [Dk.new]; omega))
      go_wp2_with fail
      refine NL.out.mono ?_
      rintro e w4 ⟨l, rfl, hl, hgl, hb4⟩
      have HB4 := Lib.hid (below2 HB3.out hb4)
      have x4 := x3.keep hb4 x3.lt
      have c41 := x4.cell 1
      simp at c41
      have NP := Lib.hid (fun W => poNew_frames s l f hf W)
      clear hl hb4 c32 HS NL hz hf hp hg
      go_wp2_with fail
      refine (NP.out _).mono ?_
      rintro e w5 ⟨rfl, rfl⟩
      go_wp2
      refine bodyPost_ret (results_tmp5 rfl _ _) rfl ?_
      exact ⟨_, _, _, rfl, HB4.out⟩
    · have NL := Lib.hid (fun W => logNew_bad (w := W) gd 30 g (by omega))
      clear hz hp hg
      go_wp2_with fail
      refine (NL.out _).mono ?_
      rintro e w4 ⟨rfl, rfl⟩
      go_wp2
      refine bodyPost_ret (results_tmp5 rfl _ _) rfl ?_
      exact ⟨_, _, _, rfl, HB3.out⟩
  · have NS := Lib.hid (fun W => soNew_pages 0 p gd W (by omega))
    clear hz hp
    go_wp2_with fail
    refine (NS.out _).mono ?_
    rintro e w3 ⟨rfl, rfl⟩
    go_wp2
    refine bodyPost_ret (results_tmp5 rfl _ _) rfl ?_
    exact ⟨_, _, _, rfl, HB2.out⟩
end
/-- Blocks that aren't the pool's are written. -/
theorem Pool8.apart {w w' : World} {F : Foot} {A : A8} {Y : Y8} (h : Pool8 w F A Y) (hk : ∀ b, F b → w'.heap[b]? = w.heap[b]?) (hs : w.heap.size ≤ w'.heap.size) : Pool8 w' F A Y := by
  obtain ⟨FD, FL, h, rfl⟩ := h
  exact ⟨FD, FL, ⟨⟨h.sto.disk.keep (fun b hb => hk b (.inl (.inl hb))) hs, (hk _ (.inl (.inr rfl))).trans h.sto.head, h.sto.apart, h.sto.b5, h.sto.n8⟩, ⟨h.log.1, h.log.2.elim fun vb r => ⟨vb, r.keep (fun b hb => hk b (.inr (.inl hb))) hs⟩⟩, h.pool.keep fun b hb => hk b (.inr (.inr hb)), h.dl, h.ls, h.pd, h.ok⟩, rfl⟩
theorem Live8.apart {w0 w w' : World} {F G : Foot} {A : A8} {Y : Y8} (h : Live8 w0 w F A Y) (st : Step G G w w') (hG : ∀ b, G b → ¬ F b ∧ w0.heap.size ≤ b) : Live8 w0 w' F A Y :=
  ⟨h.pool.apart (fun b hb => st.block b (h.pool.lt b hb) fun e => (hG b e).1 hb) st.size, h.newF, st.belowB (fun b hb => (hG b hb).2) h.below h.below.size⟩
section
variable {base n : Nat} {Y : Y8}
theorem empty_len (h : Ok8 base n Y) {k : Nat} {f : Fr8} (hk : Y.l[k]? = some (some f)) : (Y.emptyY base k f).1.l.length = Y.l.length := by
  have := (h.empty hk).2.2.2.2
  rw [this]
  split <;> simp
theorem room_len (h : Ok8 base n Y) : (Y.roomY base).1.l.length = Y.l.length := by
  cases hf : free Y.l with
  | some k => rw [roomY_free hf]
  | none =>
    obtain ⟨f, hk⟩ := h.full hf
    rw [roomY_full hf hk]
    split
    · exact empty_len h hk
    · exact empty_len h hk
theorem fetch_len (h : Ok8 base n Y) (i : Nat) : (Y.fetchY base i).1.l.length = Y.l.length := by
  unfold Y8.fetchY
  split
  · split
    · exact room_len h
    · show ((Y.roomY base).1.l.set _ _).length = _
      rw [List.length_set]; exact room_len h
  · exact room_len h
theorem get_len (h : Ok8 base n Y) (i : Int) : (Y.getY base n i).1.l.length = Y.l.length := by
  unfold Y8.getY
  split
  · cases holds Y.l i with
    | some k => rfl
    | none =>
      simp only
      split
      · exact fetch_len h _
      · exact fetch_len h _
  · rfl
theorem evict_len (h : Ok8 base n Y) (k : Int) : (Y.evictY base k).1.l.length = Y.l.length := by
  unfold Y8.evictY
  split
  · rename_i hk
    have hx : Y.l[k.toNat]? = some Y.l[k.toNat] := List.getElem?_eq_getElem (by omega)
    simp only [List.getD_eq_getElem?_getD, hx, Option.getD_some]
    cases he : Y.l[k.toNat] with
    | none => rfl
    | some f => rw [he] at hx; exact empty_len h hx
  · rfl
end
/-- Nothing was put yet. -/
theorem Keep8.new {p f g : Nat} (_ : 1 ≤ p) (_ : p ≤ 8) (_ : 8 ≤ g) (_ : g ≤ 64) : Keep8 p (fun _ => emptyPg) (Y8.new f g) :=
  ⟨⟨rfl, rfl⟩, (fun k x hk => by have h := List.eq_of_mem_replicate (List.mem_of_getElem? hk); cases h), fun i _ _ => rfl, fun i _ => .inl rfl⟩
end Go.Proofs.YtpiaknmjepjglaaGreat

/- careenlaw08: operations that came in; are there more than are played? -/
namespace Go.Proofs.YtpiaknmjepjglaaGreat
open Go.ChangeShapes Go.WideShapes Go.RowKit
set_option maxRecDepth 100000

structure Op8 where
  kind : Int
  i : Int
  n : Int
  p : Pag
  r : Rc
def op8Cells (o : Op8) (vt vp : Value) : Array Value := #[.int .i64 o.kind, .int .i64 o.i, .int .i64 o.n, .int .i64 o.p.1, .string o.p.2, .int .i64 o.r.kind, .int .i64 o.r.txn, .int .i64 o.r.page, .int .i64 o.r.off, .int .i64 o.r.prev, .int .i64 o.r.next, .int .i64 o.r.beg, .string o.r.before, .string o.r.after, vt, vp]
theorem op8_toList (o : Op8) (vt vp : Value) : (op8Cells o vt vp).toList = .int .i64 o.kind :: .int .i64 o.i :: .int .i64 o.n :: .int .i64 o.p.1 :: .string o.p.2 :: (recCells o.r vt vp).toList := rfl
structure Op8Wf (o : Op8) : Prop where
  kind : (Lit.int .i64 o.kind).wf = true
  i : (Lit.int .i64 o.i).wf = true
  n : (Lit.int .i64 o.n).wf = true
  at_ : (Lit.int .i64 o.p.1).wf = true
  data : o.p.2.size ≤ maxLen
  sized : Sized o.r
def Op8Q (w : World) (cs : List Value) (o : Op8) : Prop := ∃ vt vp, cs = (op8Cells o vt vp).toList ∧ Lists w o.r vt vp ∧ Op8Wf o
abbrev IsOps8 (w : World) (v : Value) (l : List Op8) : Prop := ListOf 16 Op8Q w v l
theorem Op8Q.keep {w w' : World} {cs : List Value} {o : Op8} (h : Op8Q w cs o) (hb : Below w.heap.size w w') : Op8Q w' cs o := by
  obtain ⟨vt, vp, e, hl, hw⟩ := h
  exact ⟨vt, vp, e, hl.keep hb, hw⟩
theorem IsOps8.keep {w w' : World} {v : Value} {l : List Op8} (h : IsOps8 w v l) (hb : Below w.heap.size w w') : IsOps8 w' v l := ListOf.keep h (fun _ _ hq => hq.keep hb) hb
theorem cellsOp8 : Tryz.prog.cellsOf 51 = 16 := by kernel_rfl
theorem cellsInt8 : Tryz.prog.cellsOf 3 = 1 := by kernel_rfl
theorem cellsStr8 : Tryz.prog.cellsOf 9 = 1 := by kernel_rfl
theorem cellsPage8 : Tryz.prog.cellsOf 45 = 2 := by kernel_rfl
theorem read_op8 {H : Type} {enc : TypeId × Value → H} {W : World} {n : Nat} {cs : List Value} {y : DataW H × List MemPlace} (hcl : cs.length = 16) (h : DataW.trod enc Tryz.prog W 0 (fun _ => true) true n 51 cs = some y) : ∃ o : Op8, Op8Q W cs o := by
  obtain ⟨xs, k, _, _, _, hxl, hg⟩ := DataW.trod_struct Tryz.underlying51 h
  match cs, hcl with
  | [x0, x1, x2, x3, x4, x5, x6, x7, x8, x9, x10, x11, x12, x13, x14, x15], _ =>
    match xs, hxl with
    | [y0, y1, y2, y3, y4], _ =>
      have g0 : DataW.trod enc Tryz.prog W 0 (fun _ => true) true k 3 (([x0, x1, x2, x3, x4, x5, x6, x7, x8, x9, x10, x11, x12, x13, x14, x15].drop 0).take (Tryz.prog.cellsOf 3)) = [y0, y1, y2, y3, y4][0]? := hg 0 _ rfl
      have g1 : DataW.trod enc Tryz.prog W 0 (fun _ => true) true k 3 (([x0, x1, x2, x3, x4, x5, x6, x7, x8, x9, x10, x11, x12, x13, x14, x15].drop 1).take (Tryz.prog.cellsOf 3)) = [y0, y1, y2, y3, y4][1]? := hg 1 _ rfl
      have g2 : DataW.trod enc Tryz.prog W 0 (fun _ => true) true k 3 (([x0, x1, x2, x3, x4, x5, x6, x7, x8, x9, x10, x11, x12, x13, x14, x15].drop 2).take (Tryz.prog.cellsOf 3)) = [y0, y1, y2, y3, y4][2]? := hg 2 _ rfl
      have g3 : DataW.trod enc Tryz.prog W 0 (fun _ => true) true k 45 (([x0, x1, x2, x3, x4, x5, x6, x7, x8, x9, x10, x11, x12, x13, x14, x15].drop 3).take (Tryz.prog.cellsOf 45)) = [y0, y1, y2, y3, y4][3]? := hg 3 _ rfl
      have g4 : DataW.trod enc Tryz.prog W 0 (fun _ => true) true k 49 (([x0, x1, x2, x3, x4, x5, x6, x7, x8, x9, x10, x11, x12, x13, x14, x15].drop 5).take (Tryz.prog.cellsOf 49)) = [y0, y1, y2, y3, y4][4]? := hg 4 _ rfl
      simp only [cellsInt8, cellsPage8, cellsRec, List.drop_zero, List.drop_succ_cons, List.take_succ_cons, List.take_zero, List.getElem?_cons_zero, List.getElem?_cons_succ] at g0 g1 g2 g3 g4
      obtain ⟨z0, e0, _, w0⟩ := DataW.trod_int Tryz.underlying3 g0
      obtain ⟨z1, e1, _, w1⟩ := DataW.trod_int Tryz.underlying3 g1
      obtain ⟨z2, e2, _, w2⟩ := DataW.trod_int Tryz.underlying3 g2
      obtain ⟨r, vt, vp, e5, hl, hs⟩ := read_rec rfl g4
      obtain ⟨ps, k2, _, _, _, hpl, hp⟩ := DataW.trod_struct Tryz.underlying45 g3
      match ps, hpl with
      | [p0, p1], _ =>
        have q0 : DataW.trod enc Tryz.prog W 0 (fun _ => true) true k2 3 (([x3, x4].drop 0).take (Tryz.prog.cellsOf 3)) = [p0, p1][0]? := hp 0 _ rfl
        have q1 : DataW.trod enc Tryz.prog W 0 (fun _ => true) true k2 9 (([x3, x4].drop 1).take (Tryz.prog.cellsOf 9)) = [p0, p1][1]? := hp 1 _ rfl
        simp only [cellsInt8, cellsStr8, List.drop_zero, List.drop_succ_cons, List.take_succ_cons, List.take_zero, List.getElem?_cons_zero, List.getElem?_cons_succ] at q0 q1
        obtain ⟨z3, e3, _, w3⟩ := DataW.trod_int Tryz.underlying3 q0
        obtain ⟨z4, e4, _, w4⟩ := DataW.trod_string Tryz.underlying9 q1
        simp only [List.cons.injEq, and_true] at e0 e1 e2 e3 e4
        subst e0 e1 e2 e3 e4
        refine ⟨⟨z0, z1, z2, (z3, z4), r⟩, vt, vp, ?_, hl, ⟨w0, w1, w2, w3, w4, hs⟩⟩
        rw [op8_toList, ← e5]
theorem open_ops8 {H : Type} {enc : TypeId × Value → H} {W : World} {b0 : Nat} {r : Reach} {v : Value} {d : DataW H} {p : List MemPlace} (hval : Value.okWide Tryz.prog W r b0 24 v) (h : DataW.Trod enc Tryz.prog W 0 (fun _ => true) true 24 v d p) :
    ∃ l, IsOps8 W v l :=
  haveI : Inhabited Op8 := ⟨⟨0, 0, 0, (0, ⟨#[]⟩), Rc.nil⟩⟩
  open_list Tryz.underlying24 16 (by decide) cellsOp8 hval h Op8Q fun _ _ _ hcl ht => read_op8 hcl ht
/-- An operation in cells behind one another. -/
structure Op8At (w : World) (b o : Nat) (x : Op8) (vt vp : Value) : Prop where
  c0 : w.cell? ⟨b, o, none⟩ = some (.int .i64 x.kind)
  c1 : w.cell? ⟨b, o + 1, none⟩ = some (.int .i64 x.i)
  c2 : w.cell? ⟨b, o + 2, none⟩ = some (.int .i64 x.n)
  c3 : w.cell? ⟨b, o + 3, none⟩ = some (.int .i64 x.p.1)
  c4 : w.cell? ⟨b, o + 4, none⟩ = some (.string x.p.2)
  c5 : w.cell? ⟨b, o + 5, none⟩ = some (.int .i64 x.r.kind)
  c6 : w.cell? ⟨b, o + 6, none⟩ = some (.int .i64 x.r.txn)
  c7 : w.cell? ⟨b, o + 7, none⟩ = some (.int .i64 x.r.page)
  c8 : w.cell? ⟨b, o + 8, none⟩ = some (.int .i64 x.r.off)
  c9 : w.cell? ⟨b, o + 9, none⟩ = some (.int .i64 x.r.prev)
  c10 : w.cell? ⟨b, o + 10, none⟩ = some (.int .i64 x.r.next)
  c11 : w.cell? ⟨b, o + 11, none⟩ = some (.int .i64 x.r.beg)
  c12 : w.cell? ⟨b, o + 12, none⟩ = some (.string x.r.before)
  c13 : w.cell? ⟨b, o + 13, none⟩ = some (.string x.r.after)
  c14 : w.cell? ⟨b, o + 14, none⟩ = some vt
  c15 : w.cell? ⟨b, o + 15, none⟩ = some vp
theorem Op8At.mk' {w : World} {b o : Nat} {x : Op8} {vt vp : Value} (h : ∀ i u, (op8Cells x vt vp)[i]? = some u → w.cell? ⟨b, o + i, none⟩ = some u) : Op8At w b o x vt vp :=
  ⟨h 0 _ rfl, h 1 _ rfl, h 2 _ rfl, h 3 _ rfl, h 4 _ rfl, h 5 _ rfl, h 6 _ rfl, h 7 _ rfl, h 8 _ rfl, h 9 _ rfl, h 10 _ rfl, h 11 _ rfl, h 12 _ rfl, h 13 _ rfl, h 14 _ rfl, h 15 _ rfl⟩
theorem Op8At.keep {w w' : World} {b o : Nat} {x : Op8} {vt vp : Value} (h : Op8At w b o x vt vp) (hb : Below w.heap.size w w') : Op8At w' b o x vt vp := by
  have hlt := World.block_lt_of_cell? w ⟨b, o, none⟩ h.c0
  have k : ∀ x, w'.cell? ⟨b, x, none⟩ = w.cell? ⟨b, x, none⟩ := fun x => hb.cell (p := ⟨b, x, none⟩) hlt
  exact ⟨(k _).trans h.c0, (k _).trans h.c1, (k _).trans h.c2, (k _).trans h.c3, (k _).trans h.c4, (k _).trans h.c5, (k _).trans h.c6, (k _).trans h.c7, (k _).trans h.c8, (k _).trans h.c9, (k _).trans h.c10, (k _).trans h.c11, (k _).trans h.c12, (k _).trans h.c13, (k _).trans h.c14, (k _).trans h.c15⟩
theorem IsOps8.at_ {w : World} {v : Value} {l : List Op8} (h : IsOps8 w v l) (hl : 0 < l.length) : ∃ b off cap, v = .slice (some ⟨b, off, none⟩) l.length cap ∧ l.length ≤ cap ∧ cap ≤ maxLen ∧ b < w.heap.size ∧
    ∀ j (hj : j < l.length), ∃ ta tc pa pc, Lists w l[j].r (.slice ta l[j].r.txns.length tc) (.slice pa l[j].r.pages.length pc) ∧ Op8Wf l[j] ∧ Op8At w b (off + j * 16) l[j] (.slice ta l[j].r.txns.length tc) (.slice pa l[j].r.pages.length pc) := by
  rcases h.cases with ⟨rfl, _⟩ | ⟨b, off, cap, rfl, _, h2, h3, h4, h5⟩
  · simp at hl
  refine ⟨b, off, cap, rfl, h2, h3, h4, fun j hj => ?_⟩
  obtain ⟨cs, ⟨vt, vp, rfl, hl, hw⟩, hc⟩ := h5 j hj
  obtain ⟨ta, tc, e⟩ := hl.t.form
  obtain ⟨pa, pc, e'⟩ := hl.p.form
  subst e e'
  exact ⟨ta, tc, pa, pc, hl, hw, .mk' fun i u hu => hc i u (by rw [Array.getElem?_toList]; exact hu)⟩

def isLong8 (ops : List Op8) : Prop := (∃ o ∈ ops, 500 < o.p.2.size ∨ ¬ Fit o.r) ∨ 200 < ops.length
/-- The variable's cells, spelled as the walk spells them. -/
def op8Zero : Array Value := #[.int .i64 0, .int .i64 0, .int .i64 0, .int .i64 0, .string ⟨#[]⟩, .int .i64 0, .int .i64 0, .int .i64 0, .int .i64 0, .int .i64 0, .int .i64 0, .int .i64 0, .string ⟨#[]⟩, .string ⟨#[]⟩, .slice none 0 0, .slice none 0 0]
set_option maxHeartbeats 16000000 in
theorem long8_any (v : Value) (ops : List Op8) (w : World) (hr : IsOps8 w v ops) (yes : Bool) (hy : yes = true ↔ isLong8 ops) :
    Calls Tryz.prog 12 #[v] w fun e w' => e = .returned (.bool yes) ∧ Below w.heap.size w w' := by
  have HV := Lib.hid hr
  obtain ⟨a, cap, rfl, h1, h2, _⟩ := hr
  have hm : (ops.length : Int) ≤ 9223372036854775807 := by unfold maxLen at h2; omega
  have HY := Lib.hid hy
  clear h1 h2 hy
  go_enter Tryz.func12, Tryz.ntmps12
  go_wp2_with fail
  go_loopw [7] (fun vk wr => ∃ k : Nat, vk = .int .i64 k ∧ k ≤ ops.length ∧ Below w.heap.size w wr ∧ ∀ o ∈ ops.take k, ¬ 500 < o.p.2.size ∧ Fit o.r) (fun vk _ => ops.length - (intOf vk).toNat)
  case atStart => exact ⟨0, rfl, Nat.zero_le _, Below.refl _ _, fun o ho => by simp at ho⟩
  case round =>
    obtain ⟨k, rfl, hk, hB, hall⟩ := hrel
    have HB := Lib.hid hB
    have HALL := Lib.hid hall
    clear hB hall
    by_cases hlt : k < ops.length
    · obtain ⟨b, off, cap', hva, _, _, hbw, hel⟩ := HV.out.at_ (by omega)
      cases hva
      obtain ⟨ta, tc, pa, pc, hls0, hwf, hc⟩ := hel k hlt
      have HLS := Lib.hid (hls0.keep HB.out)
      have HSZ := Lib.hid hwf.sized
      have HIN : Hid (ops[k] ∈ ops) := List.getElem_mem hlt
      have HTK : Hid (ops.take (k + 1) = ops.take k ++ [ops[k]]) := by unfold Hid; rw [List.take_succ_eq_append_getElem hlt]
      have hd : (ops[k].p.2.size : Int) ≤ 9223372036854775807 := by have := hwf.data; unfold maxLen at this; omega
      obtain ⟨c0, c1, c2, c3, c4, c5, c6, c7, c8, c9, c10, c11, c12, c13, c14, c15⟩ := hc.keep HB.out
      clear hls0 hwf hel hc
      generalize ops[k] = o at *
      have hn := Blk.new wr 51 op8Zero
      have N3 := hn.setRow (op8Cells o (.slice ta o.r.txns.length tc) (.slice pa o.r.pages.length pc))
      have hb3 : Below wr.heap.size wr ((wr.alloc (.cells op8Zero 51)).setRow wr.heap.size (op8Cells o (.slice ta o.r.txns.length tc) (.slice pa o.r.pages.length pc))) := below_setRow ((Below.refl _ _).alloc (Nat.le_refl _) _) (Nat.le_refl _) _
      have HB3 := Lib.hid (below2 HB.out hb3)
      have HLS3 := Lib.hid (HLS.out.keep hb3)
      go_upto_region 4 with (refine wpList_store_row rfl 51 _ _ rfl wr.heap.size _ rfl rfl 51 _ hn (by kernel_rfl) rfl (by simp [Value.oneCell']) ?_)
      clear hn hb3 c0 c1 c2 c3 c4 c5 c6 c7 c8 c9 c10 c11 c12 c13 c14 c15 HLS HB hbw
      change Code.wp _ _ _ _ ((wr.alloc (.cells op8Zero 51)).setRow wr.heap.size (op8Cells o (.slice ta o.r.txns.length tc) (.slice pa o.r.pages.length pc)))
      generalize (wr.alloc (.cells op8Zero 51)).setRow wr.heap.size (op8Cells o (.slice ta o.r.txns.length tc) (.slice pa o.r.pages.length pc)) = w3 at *
      generalize wr.heap.size = x at *
      have IR : Hid (IsRec w3 (.agg (recCells o.r (.slice ta o.r.txns.length tc) (.slice pa o.r.pages.length pc))) o.r) := ⟨_, _, rfl, HLS3.out⟩
      have d4 : w3.cell? ⟨x, 4, none⟩ = some (.string o.p.2) := N3.cell 4
      have d5 : w3.cell? ⟨x, 5, none⟩ = some (.int .i64 o.r.kind) := N3.cell 5
      have d6 : w3.cell? ⟨x, 6, none⟩ = some (.int .i64 o.r.txn) := N3.cell 6
      have d7 : w3.cell? ⟨x, 7, none⟩ = some (.int .i64 o.r.page) := N3.cell 7
      have d8 : w3.cell? ⟨x, 8, none⟩ = some (.int .i64 o.r.off) := N3.cell 8
      have d9 : w3.cell? ⟨x, 9, none⟩ = some (.int .i64 o.r.prev) := N3.cell 9
      have d10 : w3.cell? ⟨x, 10, none⟩ = some (.int .i64 o.r.next) := N3.cell 10
      have d11 : w3.cell? ⟨x, 11, none⟩ = some (.int .i64 o.r.beg) := N3.cell 11
      have d12 : w3.cell? ⟨x, 12, none⟩ = some (.string o.r.before) := N3.cell 12
      have d13 : w3.cell? ⟨x, 13, none⟩ = some (.string o.r.after) := N3.cell 13
      have d14 : w3.cell? ⟨x, 14, none⟩ = some (.slice ta o.r.txns.length tc) := N3.cell 14
      have d15 : w3.cell? ⟨x, 15, none⟩ = some (.slice pa o.r.pages.length pc) := N3.cell 15
      by_cases hp2 : 500 < o.p.2.size
      · have hp3 : (500 : Int) < o.p.2.size := by omega
        have hyes : yes = true := HY.out.2 (.inl ⟨o, HIN.out, .inl hp2⟩)
        clear hp2
        go_wp2
        go_ret
        exact ⟨by first | rfl | (rw [hyes]; rfl), HB3.out⟩
      · have hp3 : ¬ (500 : Int) < o.p.2.size := by omega
        have HP2 := Lib.hid hp2
        clear hp2
        by_cases hf : Fit o.r
        · have FEW := Lib.hid (few_yes IR.out hf)
          have HF := Lib.hid hf
          clear hf
          go_wp2_with fail
          refine FEW.out.mono ?_
          rintro e w4 ⟨rfl, hb4⟩
          have HB4 := Lib.hid (below2 HB3.out hb4)
          have HALL2 : Hid (∀ q ∈ ops.take (k + 1), ¬ 500 < q.p.2.size ∧ Fit q.r) := fun q hq => by
            rw [HTK.out] at hq
            rcases List.mem_append.1 hq with hq | hq
            · exact HALL.out q hq
            · simp at hq; subst hq; exact ⟨HP2.out, HF.out⟩
          clear hb4 HB3 N3 HLS3 IR FEW HALL d4 d5 d6 d7 d8 d9 d10 d11 d12 d13 d14 d15
          go_wp2
          go_roundw
          case rel => exact ⟨k + 1, by go_num, by omega, HB4.out, HALL2.out⟩
          case measure => simp [intOf]; omega
        · have FEW := Lib.hid (few_no IR.out HSZ.out hf)
          have hyes : yes = true := HY.out.2 (.inl ⟨o, HIN.out, .inr hf⟩)
          clear hf
          go_wp2_with fail
          refine FEW.out.mono ?_
          rintro e w4 ⟨rfl, hb4⟩
          have HB4 := Lib.hid (below2 HB3.out hb4)
          clear hb4 HB3 N3 HLS3 IR FEW d4 d5 d6 d7 d8 d9 d10 d11 d12 d13 d14 d15
          go_wp2
          go_ret
          exact ⟨by first | rfl | (rw [hyes]; rfl), HB4.out⟩
    · obtain rfl : k = ops.length := by omega
      have hyes : yes = decide ((200 : Int) < ops.length) := by
        have hall := HALL.out
        rw [List.take_length] at hall
        have h2 : isLong8 ops ↔ (200 : Int) < ops.length := by
          unfold isLong8
          constructor
          · rintro (⟨o, ho, h⟩ | h)
            · have := hall o ho
              rcases h with h | h
              · exact absurd h this.1
              · exact absurd this.2 h
            · omega
          · intro h; exact .inr (by omega)
        by_cases h : (200 : Int) < ops.length
        · rw [decide_eq_true h]; exact HY.out.2 (h2.2 h)
        · rw [decide_eq_false h]
          cases hyy : yes with
          | true => exact absurd (h2.1 (HY.out.1 hyy)) h
          | false => rfl
      go_wp2
      go_ret
      exact ⟨by rw [hyes]; rfl, HB.out⟩
end Go.Proofs.YtpiaknmjepjglaaGreat

/- careenlaw08.PoolHolds: the walk. -/
namespace Go.Proofs.YtpiaknmjepjglaaGreat
open Go.RowKit

/-- What was seen of the frames that have pages below k. -/
def seen8 (l : Frs) : Nat → Int → Option Value
  | 0 => fun _ => none
  | k + 1 => match holds l (k : Int) with
    | some f => fun c => if c = (f : Int) then some (.int .i64 1) else seen8 l k c
    | none => seen8 l k
theorem seen8_from {l : Frs} {c : Int} {v : Value} : ∀ k, seen8 l k c = some v → ∃ (i f : Nat), i < k ∧ holds l (i : Int) = some f ∧ c = f
  | 0, h => by cases h
  | k + 1, h => by
    unfold seen8 at h
    cases hh : holds l (k : Int) with
    | none =>
      rw [hh] at h
      obtain ⟨i, f, h1, h2, h3⟩ := seen8_from k h
      exact ⟨i, f, by omega, h2, h3⟩
    | some f =>
      rw [hh] at h
      simp only at h
      by_cases hc : c = (f : Int)
      · exact ⟨k, f, by omega, hh, hc⟩
      · rw [if_neg hc] at h
        obtain ⟨i, f, h1, h2, h3⟩ := seen8_from k h
        exact ⟨i, f, by omega, h2, h3⟩
theorem seen8_new {l : Frs} (_ : Uniq l) {k f : Nat} (hh : holds l (k : Int) = some f) : seen8 l k (f : Int) = none := by
  cases h : seen8 l k (f : Int) with
  | none => rfl
  | some v =>
    obtain ⟨i, g, h1, h2, h3⟩ := seen8_from k h
    obtain ⟨x, hx, hxi⟩ := holds_some hh
    obtain ⟨y, hy, hyi⟩ := holds_some h2
    have : g = f := by omega
    subst this
    rw [hx] at hy
    cases hy
    omega
theorem holdsI_some {l : Frs} {i : Int} {k : Nat} (h : holds l i = some k) : holdsI l i = k := by unfold holdsI; rw [h]
theorem holdsI_none {l : Frs} {i : Int} (h : holds l i = none) : holdsI l i = -1 := by unfold holdsI; rw [h]
set_option maxRecDepth 100000 in
set_option maxHeartbeats 32000000 in
/-- Sizes that may be, a script that is played. -/
theorem holds_go (p f g : Nat) (p1 : 1 ≤ p) (p8 : p ≤ 8) (f1 : 1 ≤ f) (f8 : f ≤ 8) (g8 : 8 ≤ g) (g64 : g ≤ 64) (v : Value) (ops : List Op8) (w : World) (hv : IsOps8 w v ops) (hl : ¬ isLong8 ops) :
    Calls Tryz.prog 6 #[.agg #[.int .i64 p, .int .i64 f, .int .i64 g], v] w fun e w' => e = .returned (.bool true) ∧ Below w.heap.size w w' := by
  have X0 := Blk.new w 23 #[.int .i64 p, .int .i64 f, .int .i64 g]
  have hb0 := (Below.refl w.heap.size w).alloc (Nat.le_refl _) (.cells #[.int .i64 p, .int .i64 f, .int .i64 g] 23)
  have MK := Lib.hid (fun W => made_ok (w := W) p f g p1 p8 f1 f8 g8 g64)
  have KN := Lib.hid (Keep8.new (f := f) p1 p8 g8 g64)
  have HL : Hid (ops.length ≤ 200) := by unfold isLong8 at hl; have := fun h => hl (.inr h); exact Nat.le_of_not_lt this
  have hLN := hl
  have hpI : (1 : Int) ≤ p ∧ (p : Int) ≤ 8 := by omega
  have hfI : (1 : Int) ≤ f ∧ (f : Int) ≤ 8 := by omega
  have HP := Lib.hid p1
  have HF := Lib.hid f1
  have HF8 := Lib.hid f8
  have HP8 := Lib.hid p8
  clear p1 p8 f1 f8 g8 g64 hl
  obtain ⟨hp1, hp2⟩ := hpI
  obtain ⟨hf1, hf2⟩ := hfI
  go_enter Tryz.func6, Tryz.ntmps6
  go_upto_region 1 with fail
  change Code.wp _ _ _ _ (w.alloc (.cells #[.int .i64 p, .int .i64 f, .int .i64 g] 23))
  have HB0 := Lib.hid hb0
  have HV0 := Lib.hid (hv.keep hb0)
  clear hb0 hv
  generalize w.alloc (.cells #[.int .i64 p, .int .i64 f, .int .i64 g] 23) = w1 at *
  have HB1 : Hid (∀ w', Below w1.heap.size w1 w' → Below w.heap.size w w') := Lib.hid fun w' h => HB0.out.trans (h.mono HB0.out.size)
  generalize hzb : w.heap.size = zb at *
  have HZB := Lib.hid hzb
  clear hzb
  go_wp2_with (refine wpList_load_row rfl 23 _ rfl zb rfl 23 _ (0, 0) _ X0 Tryz.underlying23 rfl (by kernel_rfl) ?_)
  refine (MK.out _).mono ?_
  rintro e w2 ⟨F, A, rfl, hlv, hn, hb⟩
  have L2 := Lib.hid hlv
  have HN := Lib.hid hn
  have HBA := Lib.hid hb
  have X2 := X0.keep hlv.below X0.lt
  have HZ1 := Lib.hid X0.lt
  clear hlv hn hb MK X0
  go_wp2_with fail
  refine (awake8 _).mono ?_
  rintro e w3 ⟨rfl, hb3⟩
  have L3 := Lib.hid (L2.out.more hb3)
  have HV3 := Lib.hid (HV0.out.keep (L3.out.below))
  have X3 := X2.keep hb3 X2.lt
  clear hb3 L2 X2
  have LG := Lib.hid (long8_any v ops w3 HV3.out false (by simp [hLN]))
  clear hLN
  go_wp2_with fail
  refine LG.out.mono ?_
  rintro e w4 ⟨rfl, hb4⟩
  have L4 := Lib.hid (L3.out.more hb4)
  have X4 := Lib.hid (X3.keep hb4 X3.lt)
  clear hb4 L3 X3 LG HV3
  obtain ⟨va, vcap, rfl, hv1, hv2, _⟩ := id HV0.out
  have hlm : (ops.length : Int) ≤ 200 := by have := HL.out; omega
  clear hv1 hv2
  go_wp2_with fail
  go_loopw [39] (fun vj wr => ∃ (j : Nat) (F : Foot) (Y : Y8), vj = .int .i64 j ∧ j ≤ ops.length ∧ Live8 w1 wr F A Y ∧ Keep8 p (fun _ => emptyPg) Y ∧ Y.t ≤ 1 + j ∧ Y.l.length = f ∧ Blk wr zb 23 #[.int .i64 p, .int .i64 f, .int .i64 g]) (fun vj _ => ops.length - (intOf vj).toNat)
  case atStart => exact ⟨0, F, _, rfl, Nat.zero_le _, L4.out, KN.out, by simp [Y8.new], by simp [Y8.new], X4.out⟩
  case round =>
    obtain ⟨j, F, Y, rfl, hjl, hlv, hkp, htj, hlen, hx⟩ := hrel
    have LV := Lib.hid hlv
    have KP := Lib.hid hkp
    have HT := Lib.hid htj
    have HLN := Lib.hid hlen
    have HX := Lib.hid hx
    clear hlv hkp htj hlen hx L4 X4 KN
    by_cases hlt : j < ops.length
    · obtain ⟨ob, off, cap', hva, _, _, hbw, hel⟩ := HV0.out.at_ (by omega)
      cases hva
      obtain ⟨ta, tc, pa, pc, _, hwf, hc⟩ := hel j hlt
      obtain ⟨c0, c1, c2, c3, c4, c5, c6, c7, c8, c9, c10, c11, c12, c13, c14, c15⟩ := hc.keep LV.out.below
      clear hel hc hwf
      generalize ops[j] = o at *
      have hn := Blk.new wr 51 op8Zero
      have N3 := hn.setRow (op8Cells o (.slice ta o.r.txns.length tc) (.slice pa o.r.pages.length pc))
      have hb3 : Below wr.heap.size wr ((wr.alloc (.cells op8Zero 51)).setRow wr.heap.size (op8Cells o (.slice ta o.r.txns.length tc) (.slice pa o.r.pages.length pc))) := below_setRow ((Below.refl _ _).alloc (Nat.le_refl _) _) (Nat.le_refl _) _
      have L5 := Lib.hid (LV.out.more hb3)
      have X5 := HX.out.keep hb3 HX.out.lt
      go_upto_region 7 with (refine wpList_store_row rfl 51 _ _ rfl wr.heap.size _ rfl rfl 51 _ hn (by kernel_rfl) rfl (by simp [Value.oneCell']) ?_)
      clear hn hb3 c0 c1 c2 c3 c4 c5 c6 c7 c8 c9 c10 c11 c12 c13 c14 c15 hbw LV HX
      change Code.wp _ _ _ _ ((wr.alloc (.cells op8Zero 51)).setRow wr.heap.size (op8Cells o (.slice ta o.r.txns.length tc) (.slice pa o.r.pages.length pc)))
      generalize (wr.alloc (.cells op8Zero 51)).setRow wr.heap.size (op8Cells o (.slice ta o.r.txns.length tc) (.slice pa o.r.pages.length pc)) = w5 at *
      generalize wr.heap.size = x at *
      have d0 : w5.cell? ⟨x, 0, none⟩ = some (.int .i64 o.kind) := N3.cell 0
      have d1 : w5.cell? ⟨x, 1, none⟩ = some (.int .i64 o.i) := N3.cell 1
      have d2 : w5.cell? ⟨x, 2, none⟩ = some (.int .i64 o.n) := N3.cell 2
      have z0 : w5.cell? ⟨zb, 0, none⟩ = some (.int .i64 p) := X5.cell 0
      have z1 : w5.cell? ⟨zb, 1, none⟩ = some (.int .i64 f) := X5.cell 1
      have hwp : IntKind.u64.wrap (p : Int) = p := by rw [IntKind.wrap_u64]; omega
      have hwf' : IntKind.u64.wrap (f : Int) = f := by rw [IntKind.wrap_u64]; omega
      have hm1 := modN_eq o.i p (by omega) (by omega)
      have hm2 := modN_eq o.n f (by omega) (by omega)
      have HI : Hid (modN o.i p < p) := by have := modN_lt o.i p (by omega); exact (by omega : modN o.i p < p)
      have hi8 : (modN o.i p : Int) ≤ 8 := by have := modN_lt o.i p (by omega); omega
      clear N3
      go_upto_region 8 with fail
      rw [hm1]
      have HM2 := Lib.hid hm2
      clear hm1 hm2
      generalize modN o.i p = i at *
      by_cases hk : o.kind = 3
      · have hk3 : (o.kind == 3) = true := by simp [hk]
        have EV := Lib.hid (poEvict_any L5.out.pool ((modN o.n f : Nat) : Int) (by have := HT.out; have := HL.out; omega))
        have hE := KP.out
        have hok := L5.out.pool.ok
        have HEV : Hid (Keep8 p (fun _ => emptyPg) (Y.evictY A.base (modN o.n f : Nat)).1 ∧ (Y.evictY A.base (modN o.n f : Nat)).1.t ≤ 1 + (j + 1) ∧ (Y.evictY A.base (modN o.n f : Nat)).1.l.length = f) := by
          rw [HN.out] at hok
          exact ⟨hE.evict hok _, by have := (hok.evict ((modN o.n f : Nat) : Int)).2; have := HT.out; omega, by rw [evict_len hok]; exact HLN.out⟩
        clear hE hok hk
        generalize Y.evictY A.base (modN o.n f : Nat) = Z at *
        obtain ⟨Y', er⟩ := Z
        go_wp2_with fail
        rw [HM2.out]
        refine EV.out.mono ?_
        rintro e w6 ⟨rfl, F6, hp6, hs6⟩
        have X6 : Blk w6 zb 23 #[.int .i64 p, .int .i64 f, .int .i64 g] := (hs6.block _ X5.lt fun e => by have := L5.out.newF _ e; have := HZ1.out; omega).trans X5
        have HX6 := Lib.hid X6
        have L6 := Lib.hid (L5.out.step hp6 hs6)
        clear hp6 hs6 X6 X5 L5 EV d0 d1 d2 z0 z1
        go_wp2
        go_roundw
        case rel => exact ⟨j + 1, F6, Y', by go_num, by omega, L6.out, HEV.out.1, HEV.out.2.1, HEV.out.2.2, HX6.out⟩
        case measure => simp [intOf]; omega
      · have hk3 : (o.kind == 3) = false := by simp [hk]
        have GT := poGet_any L5.out.pool (i : Int) (by have := HT.out; have := HL.out; omega)
        have hok := L5.out.pool.ok
        rw [HN.out] at hok GT
        have hgl := get_len hok (i : Int)
        have hgt := (hok.get (i : Int)).2.2
        obtain ⟨Y', hy, hkp, ki, hki⟩ := KP.out.get hok HI.out
        rw [hy] at GT hgl hgt
        replace GT : Hid (Calls Tryz.prog 15 #[.pointer (some ⟨A.q, 0, none⟩), .int .i64 i] w5 (Out8 w5 F A Y' (.tuple #[.agg #[.int .i64 0, .string noughts], .int .i64 0]))) := Lib.hid GT
        have HY : Hid (Y'.t ≤ 1 + (j + 1) ∧ Y'.l.length = f) := ⟨by have := HT.out; simp only at hgt; omega, by simp only at hgl; rw [hgl]; exact HLN.out⟩
        have KP' := Lib.hid hkp
        have HKI := Lib.hid hki
        clear hok hgl hgt hy hkp hki hk
        go_wp2_with fail
        refine GT.out.mono ?_
        rintro e w6 ⟨rfl, F6, hp6, hs6⟩
        have X6 : Blk w6 zb 23 #[.int .i64 p, .int .i64 f, .int .i64 g] := (hs6.block _ X5.lt fun e => by have := L5.out.newF _ e; have := HZ1.out; omega).trans X5
        have B7 := (Below.refl w6.heap.size w6).alloc (Nat.le_refl _) (.cells #[.int .i64 0, .string noughts] 45)
        have L7 := Lib.hid ((L5.out.step hp6 hs6).more B7)
        have X7 := X6.keep B7 X6.lt
        clear hp6 hs6 X6 X5 L5 GT d0 d1 d2 z0 z1 B7
        go_upto_region 11 with fail
        change Code.wp _ _ _ _ (w6.alloc (.cells #[.int .i64 0, .string noughts] 45))
        generalize w6.alloc (.cells #[.int .i64 0, .string noughts] 45) = w7 at *
        have HO := poHolds_any L7.out.pool (i : Int)
        rw [holdsI_some HKI.out] at HO
        replace HO := Lib.hid HO
        have hki0 : ¬ ((ki : Int) < 0) := by omega
        go_wp2_with fail
        refine HO.out.mono ?_
        rintro e w8 ⟨rfl, rfl⟩
        have L8 := Lib.hid (L7.out.more ((Below.refl _ _).alloc (Nat.le_refl _) (.map #[] 0)))
        have X8 := X7.alloc (.map #[] 0)
        have M8 := BMap.made w7
        have HMS : Hid (w1.heap.size ≤ w7.heap.size) := L7.out.below.size
        have HMF : Hid (¬ F6 w7.heap.size) := fun e => by have := L7.out.pool.lt _ e; omega
        have hmm := @run_makeMap Tryz.prog
        go_upto_region 14 with fail
        change Code.wp _ _ _ _ (w7.alloc (.map #[] 0))
        clear L7 X7 HO hmm
        generalize w7.alloc (.map #[] 0) = w8 at *
        generalize w7.heap.size = ms at *
        have z0 : w8.cell? ⟨zb, 0, none⟩ = some (.int .i64 p) := X8.cell 0
        have START := Lib.hid (And.intro L8.out (And.intro X8 M8))
        clear L8 M8
        go_wp2_with fail
        go_loopw [81] (fun vk wk => ∃ k : Nat, vk = .int .i64 k ∧ k ≤ p ∧ Live8 w1 wk F6 A Y' ∧ Blk wk zb 23 #[.int .i64 p, .int .i64 f, .int .i64 g] ∧ BMap wk ms (seen8 Y'.l k)) (fun vk _ => p - (intOf vk).toNat)
        case atStart => exact ⟨0, rfl, Nat.zero_le _, START.out.1, START.out.2.1, START.out.2.2⟩
        case round =>
          obtain ⟨k, rfl, hkp, hlk, hxk, hmk⟩ := hrel
          have LK := Lib.hid hlk
          have XK := Lib.hid hxk
          have MK := Lib.hid hmk
          clear hlk hxk hmk START X8 z0
          by_cases hltk : k < p
          · have hkI : (k : Int) < p := by omega
            cases hh : holds Y'.l (k : Int) with
            | none =>
              have HO := poHolds_any LK.out.pool (k : Int)
              rw [holdsI_none hh] at HO
              replace HO := Lib.hid HO
              have hse : seen8 Y'.l (k + 1) = seen8 Y'.l k := by
                show (match holds Y'.l (k : Int) with | some f => _ | none => _) = _
                rw [hh]
              have HSE := Lib.hid hse
              clear hse hh
              go_wp2_with fail
              refine HO.out.mono ?_
              rintro e w9 ⟨rfl, rfl⟩
              go_wp2
              go_roundw
              case rel => exact ⟨k + 1, by go_num, by omega, LK.out, XK.out, by rw [HSE.out]; exact MK.out⟩
              case measure => simp [intOf]; omega
            | some fk =>
              have HO := poHolds_any LK.out.pool (k : Int)
              rw [holdsI_some hh] at HO
              replace HO := Lib.hid HO
              have hnew := seen8_new LK.out.pool.ok.uniq hh
              have hse : seen8 Y'.l (k + 1) = fun c => if c = (fk : Int) then some (.int .i64 1) else seen8 Y'.l k c := by
                show (match holds Y'.l (k : Int) with | some f => _ | none => _) = _
                rw [hh]
              have hfl := holds_lt hh
              have hff : ¬ ((f : Int) ≤ (fk : Int)) := by have := HY.out.2; omega
              have hf0 : ¬ ((fk : Int) < 0) := by omega
              have hg0 : (0 : Int) ≤ (fk : Int) := by omega
              have look0 : (Instr.lookup 86 (.map (some ms)) (.int .i64 (fk : Int)) false).run Tryz.prog wr = .ok (.int .i64 0) wr := by
                have := look81 MK.out.isMap (fk : Int)
                rw [hnew] at this
                exact this
              obtain ⟨w10, hput, hmap, hoth, hst⟩ := put8 MK.out (fk : Int) (.int .i64 1)
              have look1 : (Instr.lookup 86 (.map (some ms)) (.int .i64 (fk : Int)) false).run Tryz.prog w10 = .ok (.int .i64 1) w10 := by
                have := look81 hmap.isMap (fk : Int)
                rw [if_pos rfl] at this
                exact this
              have hx10 : Blk w10 zb 23 #[.int .i64 p, .int .i64 f, .int .i64 g] := (hoth zb (fun e => by have := HZ1.out; have := HMS.out; omega)).trans XK.out
              have hl10 : Live8 w1 w10 F6 A Y' := LK.out.apart (hst (· = ms) rfl) fun b hb => by
                subst hb
                exact ⟨HMF.out, HMS.out⟩
              have z1 : w10.cell? ⟨zb, 1, none⟩ = some (.int .i64 f) := hx10.cell 1
              have L10 := Lib.hid hl10
              have X10 := Lib.hid hx10
              have M10 : Hid (BMap w10 ms (seen8 Y'.l (k + 1))) := by rw [hse]; exact hmap
              clear hnew hse hfl hmap hoth hst hx10 hl10 hh LK XK MK
              go_wp2_with fail
              refine HO.out.mono ?_
              rintro e w9 ⟨rfl, rfl⟩
              go_wp2
              go_roundw
              case rel => exact ⟨k + 1, by go_num, by omega, L10.out, X10.out, M10.out⟩
              case measure => simp [intOf]; omega
          · obtain rfl : k = p := by omega
            go_wp2
            go_roundw
            case rel => exact ⟨j + 1, F6, Y', by go_num, by omega, LK.out, KP'.out, HY.out.1, HY.out.2, XK.out⟩
            case measure => simp [intOf]; omega
    · obtain rfl : j = ops.length := by omega
      have HBF := Lib.hid (HB1.out _ LV.out.below)
      clear LV HX
      go_wp2
      go_ret
      exact ⟨rfl, by rw [HZB.out]; exact HBF.out⟩
set_option maxRecDepth 100000 in
set_option maxHeartbeats 16000000 in
theorem holds_bad (p f g : Int) (hz : ¬ Sizes8 p f g) (v : Value) (w : World) :
    Calls Tryz.prog 6 #[.agg #[.int .i64 p, .int .i64 f, .int .i64 g], v] w fun e w' => e = .returned (.bool true) ∧ Below w.heap.size w w' := by
  have X0 := Blk.new w 23 #[.int .i64 p, .int .i64 f, .int .i64 g]
  have hb0 := (Below.refl w.heap.size w).alloc (Nat.le_refl _) (.cells #[.int .i64 p, .int .i64 f, .int .i64 g] 23)
  have MK := Lib.hid (fun W => made_bad (w := W) p f g hz)
  clear hz
  go_enter Tryz.func6, Tryz.ntmps6
  go_upto_region 1 with fail
  change Code.wp _ _ _ _ (w.alloc (.cells #[.int .i64 p, .int .i64 f, .int .i64 g] 23))
  have HB0 := Lib.hid hb0
  have HX0 := Lib.hid X0
  clear hb0 X0
  generalize w.alloc (.cells #[.int .i64 p, .int .i64 f, .int .i64 g] 23) = w1 at *
  go_wp2_with (refine wpList_load_row rfl 23 _ rfl w.heap.size rfl 23 _ (0, 0) _ HX0.out Tryz.underlying23 rfl (by kernel_rfl) ?_)
  refine (MK.out _).mono ?_
  rintro e w2 ⟨v0, v1, v2, rfl, hb2⟩
  have HB2 := Lib.hid (below2 HB0.out hb2)
  clear hb2 HB0 HX0 MK
  go_wp2_with fail
  refine (awake8 _).mono ?_
  rintro e w3 ⟨rfl, hb3⟩
  have HB3 := Lib.hid (below2 HB2.out hb3)
  clear hb3 HB2
  go_wp2_with fail
  refine (awake8 _).mono ?_
  rintro e w4 ⟨rfl, hb4⟩
  have HB4 := Lib.hid (below2 HB3.out hb4)
  clear hb4 HB3
  go_wp2
  go_ret
  exact ⟨rfl, HB4.out⟩
set_option maxRecDepth 100000 in
set_option maxHeartbeats 16000000 in
theorem holds_long (p f g : Nat) (p1 : 1 ≤ p) (p8 : p ≤ 8) (f1 : 1 ≤ f) (f8 : f ≤ 8) (g8 : 8 ≤ g) (g64 : g ≤ 64) (v : Value) (ops : List Op8) (w : World) (hv : IsOps8 w v ops) (hl : isLong8 ops) :
    Calls Tryz.prog 6 #[.agg #[.int .i64 p, .int .i64 f, .int .i64 g], v] w fun e w' => e = .returned (.bool true) ∧ Below w.heap.size w w' := by
  have X0 := Blk.new w 23 #[.int .i64 p, .int .i64 f, .int .i64 g]
  have hb0 := (Below.refl w.heap.size w).alloc (Nat.le_refl _) (.cells #[.int .i64 p, .int .i64 f, .int .i64 g] 23)
  have MK := Lib.hid (fun W => made_ok (w := W) p f g p1 p8 f1 f8 g8 g64)
  clear p1 p8 f1 f8 g8 g64
  go_enter Tryz.func6, Tryz.ntmps6
  go_upto_region 1 with fail
  change Code.wp _ _ _ _ (w.alloc (.cells #[.int .i64 p, .int .i64 f, .int .i64 g] 23))
  have HB0 := Lib.hid hb0
  have HX0 := Lib.hid X0
  have HV := Lib.hid hv
  clear hb0 X0 hv
  generalize w.alloc (.cells #[.int .i64 p, .int .i64 f, .int .i64 g] 23) = w1 at *
  go_wp2_with (refine wpList_load_row rfl 23 _ rfl w.heap.size rfl 23 _ (0, 0) _ HX0.out Tryz.underlying23 rfl (by kernel_rfl) ?_)
  refine (MK.out _).mono ?_
  rintro e w2 ⟨F, A, rfl, hlv, hn, hb⟩
  have HB2 := Lib.hid (below2 HB0.out hlv.below)
  clear hlv hn hb HB0 HX0 MK
  go_wp2_with fail
  refine (awake8 _).mono ?_
  rintro e w3 ⟨rfl, hb3⟩
  have HB3 := Lib.hid (below2 HB2.out hb3)
  have LG := Lib.hid (long8_any v ops w3 (HV.out.keep HB3.out) true (by simp [hl]))
  clear hb3 HB2
  go_wp2_with fail
  refine LG.out.mono ?_
  rintro e w4 ⟨rfl, hb4⟩
  have HB4 := Lib.hid (below2 HB3.out hb4)
  clear hb4 HB3 LG
  go_wp2_with fail
  refine (awake8 _).mono ?_
  rintro e w5 ⟨rfl, hb5⟩
  have HB5 := Lib.hid (below2 HB4.out hb5)
  clear hb5 HB4
  go_wp2
  go_ret
  exact ⟨rfl, HB5.out⟩
/-- The walk, for every input. -/
theorem walkPoolHolds (p f g : Int) (v : Value) (ops : List Op8) (w : World) (hv : IsOps8 w v ops) :
    Calls Tryz.prog 6 #[.agg #[.int .i64 p, .int .i64 f, .int .i64 g], v] w fun e w' => e = .returned (.bool true) ∧ Below w.heap.size w w' := by
  by_cases hz : Sizes8 p f g
  · obtain ⟨⟨p1, p8⟩, ⟨f1, f8⟩, ⟨g8, g64⟩⟩ := hz
    obtain ⟨P, rfl⟩ := Int.eq_ofNat_of_zero_le (show 0 ≤ p by omega)
    obtain ⟨F, rfl⟩ := Int.eq_ofNat_of_zero_le (show 0 ≤ f by omega)
    obtain ⟨G, rfl⟩ := Int.eq_ofNat_of_zero_le (show 0 ≤ g by omega)
    by_cases hl : isLong8 ops
    · exact holds_long P F G (by omega) (by omega) (by omega) (by omega) (by omega) (by omega) v ops w hv hl
    · exact holds_go P F G (by omega) (by omega) (by omega) (by omega) (by omega) (by omega) v ops w hv hl
  · exact holds_bad p f g hz v w
end Go.Proofs.YtpiaknmjepjglaaGreat

/- careenlaw08.PoolHolds: it returns true for every input, and leaves its arguments as they were: the row's proof, out of the walk.
   Conditions: none beside the row's own (each argument is read as data). -/
namespace Go.Proofs.YtpiaknmjepjglaaGreat.poolHolds
open Go.ChangeShapes Go.WideShapes Go.ChangeAt Go.RowKit Go.Joins
open Go.ChangeMaps (open_string shut_string)
set_option linter.unusedVariables false

theorem own : ownKnob Tryz.prog.godebug = none := by kernel_rfl
theorem laidOut : laidOutB Tryz.prog = true := by kernel_rfl
theorem cellsSizes : Tryz.prog.cellsOf 23 = 3 := by kernel_rfl

set_option maxRecDepth 100000 in
theorem lifted (os : Os) (started : os.Started) (H : Type) (enc : TypeId × Value → H) :
    ReturnsInHanded {} Tryz.checked os 6 .any (Rows.poolHoldsSpec.pre6 enc Tryz.prog Tryz.f6 Rows.poolHoldsRow.domain false) (Rows.poolHoldsSpec.post enc Tryz.prog Tryz.f6 false true false false) := by
  refine returnsInHanded_of_change (C := Tryz.checked) own started (by kernel_rfl) Tryz.func6
    (ChangeSpec.witness6 (enc := enc) (C := Tryz.checked) false ⟨#[], #[.agg #[.int .i64 0, .int .i64 0, .int .i64 0], .slice none 0 0], []⟩ 8 (by kernel_rfl) (by kernel_rfl) (by kernel_rfl) (by kernel_rfl)) ?_
  intro W base args ds gs before hval0 hW hcnd _
  have hval : ∀ (j : Nat) t v, Tryz.f6.params[j]? = some t → args[j]? = some v → Value.okWide Tryz.prog W .any base t v := hval0
  have hW' := hW
  obtain ⟨p, q, hA0, hV, rfl, hfz, hnd⟩ := hW
  have hA : DataW.TrodAll enc Tryz.prog W 0 (fun _ => true) true Tryz.f6.params.toList args.toList ds p := hA0
  rw [Tryz.params6] at hA hval
  obtain ⟨v0, vs0, d0, ds0, p0, q0, hargs, rfl, rfl, h0, r0⟩ := trodAll_cons hA
  obtain ⟨v1, vs1, d1, ds1, p1, q1, rfl, rfl, rfl, h1, r1⟩ := trodAll_cons r0
  obtain ⟨rfl, rfl, rfl⟩ := trodAll_nil r1
  obtain rfl : args = #[v0, v1] := by cases args; simp_all
  obtain ⟨rfl, rfl⟩ := trodVars_none hV
  have k0 := h0
  have lt0 : ∀ x ∈ p0, x.block < W.heap.size := by obtain ⟨m, hm⟩ := k0; exact DataW.trod_lt m _ _ _ hm
  have k1 := h1
  have lt1 : ∀ x ∈ p1, x.block < W.heap.size := by obtain ⟨m, hm⟩ := k1; exact DataW.trod_lt m _ _ _ hm
  obtain ⟨c00, c01, c02, y00, y01, y02, m0, rfl, rfl, hp0, hy00, hy01, hy02⟩ := open_agg3 Tryz.underlying23 (by kernel_rfl) cellsSizes (hval 0 23 v0 rfl rfl) h0
  obtain ⟨a00, e00, rfl, w00⟩ := DataW.trod_int Tryz.underlying3 hy00
  obtain ⟨a01, e01, rfl, w01⟩ := DataW.trod_int Tryz.underlying3 hy01
  obtain ⟨a02, e02, rfl, w02⟩ := DataW.trod_int Tryz.underlying3 hy02
  simp only [List.cons.injEq, and_true] at e00 e01 e02
  subst e00 e01 e02
  obtain ⟨a1, w1⟩ := open_ops8 (hval 1 24 v1 rfl rfl) h1
  clear hA0 hval0
  refine (walkPoolHolds a00 a01 a02 v1 a1 W w1).mono fun e W' ⟨he, bel⟩ => ?_
  subst he
  exact ⟨_, rfl, _, _, _, [], _, [], hW', trodAll_mk1 (shut_bool Tryz.underlying4 _), (trodAll_cons_mk (Below.trod laidOut (by kernel_rfl) (of_decide_eq_true (by kernel_rfl)) k0 bel lt0) (trodAll_cons_mk (Below.trod laidOut (by kernel_rfl) (of_decide_eq_true (by kernel_rfl)) k1 bel lt1) trodAll_mk0)), rfl, bel.frame _, fun h => by cases h⟩

theorem over : Rows.poolHoldsRow.holds Tryz.pinned (OpenSpec.ofChange Rows.poolHoldsSpec) :=
  OpenClaim.holds_of_wide 6 Tryz.f6 rfl rfl rfl rfl rfl rfl rfl ⟨rfl, rfl, rfl, rfl, rfl⟩ rfl rfl rfl rfl rfl (by kernel_rfl) Tryz.func6 (by kernel_rfl)
    (of_decide_eq_true (by kernel_rfl)) (by unfold Func.isWrapper; first | (rw [if_pos (by decide +kernel)]; kernel_rfl) | (rw [if_neg (by decide +kernel)]; exact ⟨rfl, rfl⟩))
    (fun os started H enc _ => lifted os started H enc)

/-- The given statement. -/
theorem proved : Rows.PoolHoldsSaid := over
end Go.Proofs.YtpiaknmjepjglaaGreat.poolHolds
