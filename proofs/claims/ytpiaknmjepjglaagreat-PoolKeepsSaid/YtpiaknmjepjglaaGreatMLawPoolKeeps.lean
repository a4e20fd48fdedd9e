/- careenlaw08.PoolKeeps: it returns true for every input, and leaves its arguments as they were: the row's proof, out of the walk.
   Conditions: none beside the row's own (each argument is read as data). -/
import Derived.Test.YtpiaknmjepjglaaGreatBase
import Derived.IntWalk
import Derived.Test.YtpiaknmjepjglaaGreatJpoE
import Derived.Test.YtpiaknmjepjglaaGreatOpen
import Derived.Test.YtpiaknmjepjglaaGreatOpenL
import Derived.Test.YtpiaknmjepjglaaGreatOpenRec
import Derived.Test.YtpiaknmjepjglaaGreatRecM2
import Derived.Test.YtpiaknmjepjglaaGreatFew
import Derived.Test.YtpiaknmjepjglaaGreatJst
import Derived.Test.YtpiaknmjepjglaaGreatJpg2
import Derived.Test.YtpiaknmjepjglaaGreatJwal2
import Derived.ProofKit
import Derived.OpenShut
import Derived.ShutString
import Derived.ChangeOld
import Derived.Below
import Derived.Lib.SmallJoins
/- 'int(uint(i) % m)'; nothing of the program is imported. -/
namespace Go.Proofs.YtpiaknmjepjglaaGreat
open Go.RowKit

def modN (i m : Int) : Nat := (IntKind.u64.wrap i % m).toNat
theorem modN_pos (i : Int) : 0 ≤ IntKind.u64.wrap i := by rw [IntKind.wrap_u64]; omega
theorem modN_lt (i m : Int) (hm : 0 < m) : (modN i m : Int) < m := by
  have h1 := Int.emod_lt_of_pos (IntKind.u64.wrap i) hm
  have h2 := Int.emod_nonneg (IntKind.u64.wrap i) (Int.ne_of_gt hm)
  unfold modN; omega
theorem modN_eq (i m : Int) (hm : 0 < m) (hm2 : m ≤ 1000000000) : wrap64 ((IntKind.u64.wrap i).tmod m) = (modN i m : Int) := by
  have h1 := Int.emod_lt_of_pos (IntKind.u64.wrap i) hm
  have h2 := Int.emod_nonneg (IntKind.u64.wrap i) (Int.ne_of_gt hm)
  rw [Int.tmod_eq_emod_of_nonneg (modN_pos i)]
  unfold modN
  generalize IntKind.u64.wrap i % m = x at *
  unfold wrap64
  omega
theorem size_eq (n : Int) (k : Int) (hk0 : 0 < k) (hk : k ≤ 1000) : ∃ N : Nat, 8 ≤ N ∧ (N : Int) < 8 + k ∧ wrap64 (8 + wrap64 ((IntKind.u64.wrap n).tmod k)) = (N : Int) := by
  have h1 := modN_eq n k hk0 (by omega)
  have h2 := modN_lt n k hk0
  refine ⟨8 + modN n k, by omega, by omega, ?_⟩
  rw [h1]
  unfold wrap64
  omega
end Go.Proofs.YtpiaknmjepjglaaGreat

/- careenlaw08: what is made of sizes that may not be; what stays as it is beside a pool. -/
namespace Go.Proofs.YtpiaknmjepjglaaGreat
open Go.RowKit

/-- Sizes that may be. -/
def Sizes8 (p f g : Int) : Prop := (1 ≤ p ∧ p ≤ 8) ∧ (1 ≤ f ∧ f ≤ 8) ∧ (8 ≤ g ∧ g ≤ 64)
section
variable {w : World}
set_option maxRecDepth 100000 in
set_option maxHeartbeats 8000000 in
theorem made_bad (p f g : Int) (hz : ¬ Sizes8 p f g) :
    Calls Tryz.prog 8 #[.agg #[.int .i64 p, .int .i64 f, .int .i64 g]] w fun e w' => ∃ v0 v1 v2, e = .returned (.tuple #[v0, v1, v2, .pointer none, .int .i64 1]) ∧ Below w.heap.size w w' := by
  have X0 := Blk.new w 23 #[.int .i64 p, .int .i64 f, .int .i64 g]
  have hb0 := (Below.refl w.heap.size w).alloc (Nat.le_refl _) (.cells #[.int .i64 p, .int .i64 f, .int .i64 g] 23)
  go_enter Tryz.func8, Tryz.ntmps8
  go_wp2_with fail
  have HB0 := Lib.hid hb0
  have HX0 := Lib.hid X0
  clear hb0 X0
  generalize w.alloc (.cells #[.int .i64 p, .int .i64 f, .int .i64 g] 23) = w1 at *
  refine (new_ok 100 w1 (by omega) (by omega)).mono ?_
  rintro e w2 ⟨gd, FD, rfl, hd, hFD, hb2⟩
  have HD := Lib.hid hd
  have HB2 := Lib.hid (below2 HB0.out hb2)
  have x2 := HX0.out.keep hb2 HX0.out.lt
  have c20 := x2.cell 0
  simp at c20
  clear hd hFD hb2 HB0 HX0
  by_cases hp : 1 ≤ p ∧ p ≤ 8
  · obtain ⟨P, rfl⟩ := Int.eq_ofNat_of_zero_le (show 0 ≤ p by omega)
    have NS := Lib.hid (soNew_ok HD.out 0 P (by omega) (by omega) (by simp [Dk.new]; omega))
    go_wp2_with fail
    refine NS.out.mono ?_
    rintro e w3 ⟨s, rfl, hs, hge, hb3⟩
    have HS := Lib.hid hs
    have HB3 := Lib.hid (below2 HB2.out hb3)
    have x3 := x2.keep hb3 x2.lt
    have c32 := x3.cell 2
    simp at c32
    clear hs hge hb3 HB2 c20 HD NS
    by_cases hg : 8 ≤ g ∧ g ≤ 64
    · obtain ⟨G, rfl⟩ := Int.eq_ofNat_of_zero_le (show 0 ≤ g by omega)
      have hf : f < 1 ∨ 8 < f := by unfold Sizes8 at hz; omega
      have NL := Lib.hid (logNew_ok HS.out.disk 30 G (by omega) (by omega) (by simp [Dk.new]; omega))
      go_wp2_with fail
      refine NL.out.mono ?_
      rintro e w4 ⟨l, rfl, hl, hgl, hb4⟩
      have HB4 := Lib.hid (below2 HB3.out hb4)
      have x4 := x3.keep hb4 x3.lt
      have c41 := x4.cell 1
      simp at c41
      have NP := Lib.hid (fun W => poNew_frames s l f hf W)
      clear hl hb4 c32 HS NL hz hf hp hg
      go_wp2_with fail
      refine (NP.out _).mono ?_
      rintro e w5 ⟨rfl, rfl⟩
      go_wp2
      refine bodyPost_ret (results_tmp5 rfl _ _) rfl ?_
      exact ⟨_, _, _, rfl, HB4.out⟩
    · have NL := Lib.hid (fun W => logNew_bad (w := W) gd 30 g (by omega))
      clear hz hp hg
      go_wp2_with fail
      refine (NL.out _).mono ?_
      rintro e w4 ⟨rfl, rfl⟩
      go_wp2
      refine bodyPost_ret (results_tmp5 rfl _ _) rfl ?_
      exact ⟨_, _, _, rfl, HB3.out⟩
  · have NS := Lib.hid (fun W => soNew_pages 0 p gd W (by omega))
    clear hz hp
    go_wp2_with fail
    refine (NS.out _).mono ?_
    rintro e w3 ⟨rfl, rfl⟩
    go_wp2
    refine bodyPost_ret (results_tmp5 rfl _ _) rfl ?_
    exact ⟨_, _, _, rfl, HB2.out⟩
end
/-- Blocks that aren't the pool's are written. -/
theorem Pool8.apart {w w' : World} {F : Foot} {A : A8} {Y : Y8} (h : Pool8 w F A Y) (hk : ∀ b, F b → w'.heap[b]? = w.heap[b]?) (hs : w.heap.size ≤ w'.heap.size) : Pool8 w' F A Y := by
  obtain ⟨FD, FL, h, rfl⟩ := h
  exact ⟨FD, FL, ⟨⟨h.sto.disk.keep (fun b hb => hk b (.inl (.inl hb))) hs, (hk _ (.inl (.inr rfl))).trans h.sto.head, h.sto.apart, h.sto.b5, h.sto.n8⟩, ⟨h.log.1, h.log.2.elim fun vb r => ⟨vb, r.keep (fun b hb => hk b (.inr (.inl hb))) hs⟩⟩, h.pool.keep fun b hb => hk b (.inr (.inr hb)), h.dl, h.ls, h.pd, h.ok⟩, rfl⟩
theorem Live8.apart {w0 w w' : World} {F G : Foot} {A : A8} {Y : Y8} (h : Live8 w0 w F A Y) (st : Step G G w w') (hG : ∀ b, G b → ¬ F b ∧ w0.heap.size ≤ b) : Live8 w0 w' F A Y :=
  ⟨h.pool.apart (fun b hb => st.block b (h.pool.lt b hb) fun e => (hG b e).1 hb) st.size, h.newF, st.belowB (fun b hb => (hG b hb).2) h.below h.below.size⟩
section
variable {base n : Nat} {Y : Y8}
theorem empty_len (h : Ok8 base n Y) {k : Nat} {f : Fr8} (hk : Y.l[k]? = some (some f)) : (Y.emptyY base k f).1.l.length = Y.l.length := by
  have := (h.empty hk).2.2.2.2
  rw [this]
  split <;> simp
theorem room_len (h : Ok8 base n Y) : (Y.roomY base).1.l.length = Y.l.length := by
  cases hf : free Y.l with
  | some k => rw [roomY_free hf]
  | none =>
    obtain ⟨f, hk⟩ := h.full hf
    rw [roomY_full hf hk]
    split
    · exact empty_len h hk
    · exact empty_len h hk
theorem fetch_len (h : Ok8 base n Y) (i : Nat) : (Y.fetchY base i).1.l.length = Y.l.length := by
  unfold Y8.fetchY
  split
  · split
    · exact room_len h
    · show ((Y.roomY base).1.l.set _ _).length = _
      rw [List.length_set]; exact room_len h
  · exact room_len h
theorem get_len (h : Ok8 base n Y) (i : Int) : (Y.getY base n i).1.l.length = Y.l.length := by
  unfold Y8.getY
  split
  · cases holds Y.l i with
    | some k => rfl
    | none =>
      simp only
      split
      · exact fetch_len h _
      · exact fetch_len h _
  · rfl
theorem evict_len (h : Ok8 base n Y) (k : Int) : (Y.evictY base k).1.l.length = Y.l.length := by
  unfold Y8.evictY
  split
  · rename_i hk
    have hx : Y.l[k.toNat]? = some Y.l[k.toNat] := List.getElem?_eq_getElem (by omega)
    simp only [List.getD_eq_getElem?_getD, hx, Option.getD_some]
    cases he : Y.l[k.toNat] with
    | none => rfl
    | some f => rw [he] at hx; exact empty_len h hx
  · rfl
end
/-- Nothing was put yet. -/
theorem Keep8.new {p f g : Nat} (_ : 1 ≤ p) (_ : p ≤ 8) (_ : 8 ≤ g) (_ : g ≤ 64) : Keep8 p (fun _ => emptyPg) (Y8.new f g) :=
  ⟨⟨rfl, rfl⟩, (fun k x hk => by have h := List.eq_of_mem_replicate (List.mem_of_getElem? hk); cases h), fun i _ _ => rfl, fun i _ => .inl rfl⟩
end Go.Proofs.YtpiaknmjepjglaaGreat

/- careenlaw08: operations that came in; are there more than are played? -/
namespace Go.Proofs.YtpiaknmjepjglaaGreat
open Go.ChangeShapes Go.WideShapes Go.RowKit
set_option maxRecDepth 100000

structure Op8 where
  kind : Int
  i : Int
  n : Int
  p : Pag
  r : Rc
def op8Cells (o : Op8) (vt vp : Value) : Array Value := #[.int .i64 o.kind, .int .i64 o.i, .int .i64 o.n, .int .i64 o.p.1, .string o.p.2, .int .i64 o.r.kind, .int .i64 o.r.txn, .int .i64 o.r.page, .int .i64 o.r.off, .int .i64 o.r.prev, .int .i64 o.r.next, .int .i64 o.r.beg, .string o.r.before, .string o.r.after, vt, vp]
theorem op8_toList (o : Op8) (vt vp : Value) : (op8Cells o vt vp).toList = .int .i64 o.kind :: .int .i64 o.i :: .int .i64 o.n :: .int .i64 o.p.1 :: .string o.p.2 :: (recCells o.r vt vp).toList := rfl
structure Op8Wf (o : Op8) : Prop where
  kind : (Lit.int .i64 o.kind).wf = true
  i : (Lit.int .i64 o.i).wf = true
  n : (Lit.int .i64 o.n).wf = true
  at_ : (Lit.int .i64 o.p.1).wf = true
  data : o.p.2.size ≤ maxLen
  sized : Sized o.r
def Op8Q (w : World) (cs : List Value) (o : Op8) : Prop := ∃ vt vp, cs = (op8Cells o vt vp).toList ∧ Lists w o.r vt vp ∧ Op8Wf o
abbrev IsOps8 (w : World) (v : Value) (l : List Op8) : Prop := ListOf 16 Op8Q w v l
theorem Op8Q.keep {w w' : World} {cs : List Value} {o : Op8} (h : Op8Q w cs o) (hb : Below w.heap.size w w') : Op8Q w' cs o := by
  obtain ⟨vt, vp, e, hl, hw⟩ := h
  exact ⟨vt, vp, e, hl.keep hb, hw⟩
theorem IsOps8.keep {w w' : World} {v : Value} {l : List Op8} (h : IsOps8 w v l) (hb : Below w.heap.size w w') : IsOps8 w' v l := ListOf.keep h (fun _ _ hq => hq.keep hb) hb
theorem cellsOp8 : Tryz.prog.cellsOf 51 = 16 := by kernel_rfl
theorem cellsInt8 : Tryz.prog.cellsOf 3 = 1 := by kernel_rfl
theorem cellsStr8 : Tryz.prog.cellsOf 9 = 1 := by kernel_rfl
theorem cellsPage8 : Tryz.prog.cellsOf 45 = 2 := by kernel_rfl
theorem read_op8 {H : Type} {enc : TypeId × Value → H} {W : World} {n : Nat} {cs : List Value} {y : DataW H × List MemPlace} (hcl : cs.length = 16) (h : DataW.trod enc Tryz.prog W 0 (fun _ => true) true n 51 cs = some y) : ∃ o : Op8, Op8Q W cs o := by
  obtain ⟨xs, k, _, _, _, hxl, hg⟩ := DataW.trod_struct Tryz.underlying51 h
  match cs, hcl with
  | [x0, x1, x2, x3, x4, x5, x6, x7, x8, x9, x10, x11, x12, x13, x14, x15], _ =>
    match xs, hxl with
    | [y0, y1, y2, y3, y4], _ =>
      have g0 : DataW.trod enc Tryz.prog W 0 (fun _ => true) true k 3 (([x0, x1, x2, x3, x4, x5, x6, x7, x8, x9, x10, x11, x12, x13, x14, x15].drop 0).take (Tryz.prog.cellsOf 3)) = [y0, y1, y2, y3, y4][0]? := hg 0 _ rfl
      have g1 : DataW.trod enc Tryz.prog W 0 (fun _ => true) true k 3 (([x0, x1, x2, x3, x4, x5, x6, x7, x8, x9, x10, x11, x12, x13, x14, x15].drop 1).take (Tryz.prog.cellsOf 3)) = [y0, y1, y2, y3, y4][1]? := hg 1 _ rfl
      have g2 : DataW.trod enc Tryz.prog W 0 (fun _ => true) true k 3 (([x0, x1, x2, x3, x4, x5, x6, x7, x8, x9, x10, x11, x12, x13, x14, x15].drop 2).take (Tryz.prog.cellsOf 3)) = [y0, y1, y2, y3, y4][2]? := hg 2 _ rfl
      have g3 : DataW.trod enc Tryz.prog W 0 (fun _ => true) true k 45 (([x0, x1, x2, x3, x4, x5, x6, x7, x8, x9, x10, x11, x12, x13, x14, x15].drop 3).take (Tryz.prog.cellsOf 45)) = [y0, y1, y2, y3, y4][3]? := hg 3 _ rfl
      have g4 : DataW.trod enc Tryz.prog W 0 (fun _ => true) true k 49 (([x0, x1, x2, x3, x4, x5, x6, x7, x8, x9, x10, x11, x12, x13, x14, x15].drop 5).take (Tryz.prog.cellsOf 49)) = [y0, y1, y2, y3, y4][4]? := hg 4 _ rfl
      simp only [cellsInt8, cellsPage8, cellsRec, List.drop_zero, List.drop_succ_cons, List.take_succ_cons, List.take_zero, List.getElem?_cons_zero, List.getElem?_cons_succ] at g0 g1 g2 g3 g4
      obtain ⟨z0, e0, _, w0⟩ := DataW.trod_int Tryz.underlying3 g0
      obtain ⟨z1, e1, _, w1⟩ := DataW.trod_int Tryz.underlying3 g1
      obtain ⟨z2, e2, _, w2⟩ := DataW.trod_int Tryz.underlying3 g2
      obtain ⟨r, vt, vp, e5, hl, hs⟩ := read_rec rfl g4
      obtain ⟨ps, k2, _, _, _, hpl, hp⟩ := DataW.trod_struct Tryz.underlying45 g3
      match ps, hpl with
      | [p0, p1], _ =>
        have q0 : DataW.trod enc Tryz.prog W 0 (fun _ => true) true k2 3 (([x3, x4].drop 0).take (Tryz.prog.cellsOf 3)) = [p0, p1][0]? := hp 0 _ rfl
        have q1 : DataW.trod enc Tryz.prog W 0 (fun _ => true) true k2 9 (([x3, x4].drop 1).take (Tryz.prog.cellsOf 9)) = [p0, p1][1]? := hp 1 _ rfl
        simp only [cellsInt8, cellsStr8, List.drop_zero, List.drop_succ_cons, List.take_succ_cons, List.take_zero, List.getElem?_cons_zero, List.getElem?_cons_succ] at q0 q1
        obtain ⟨z3, e3, _, w3⟩ := DataW.trod_int Tryz.underlying3 q0
        obtain ⟨z4, e4, _, w4⟩ := DataW.trod_string Tryz.underlying9 q1
        simp only [List.cons.injEq, and_true] at e0 e1 e2 e3 e4
        subst e0 e1 e2 e3 e4
        refine ⟨⟨z0, z1, z2, (z3, z4), r⟩, vt, vp, ?_, hl, ⟨w0, w1, w2, w3, w4, hs⟩⟩
        rw [op8_toList, ← e5]
theorem open_ops8 {H : Type} {enc : TypeId × Value → H} {W : World} {b0 : Nat} {r : Reach} {v : Value} {d : DataW H} {p : List MemPlace} (hval : Value.okWide Tryz.prog W r b0 24 v) (h : DataW.Trod enc Tryz.prog W 0 (fun _ => true) true 24 v d p) :
    ∃ l, IsOps8 W v l :=
  haveI : Inhabited Op8 := ⟨⟨0, 0, 0, (0, ⟨#[]⟩), Rc.nil⟩⟩
  open_list Tryz.underlying24 16 (by decide) cellsOp8 hval h Op8Q fun _ _ _ hcl ht => read_op8 hcl ht
/-- An operation in cells behind one another. -/
structure Op8At (w : World) (b o : Nat) (x : Op8) (vt vp : Value) : Prop where
  c0 : w.cell? ⟨b, o, none⟩ = some (.int .i64 x.kind)
  c1 : w.cell? ⟨b, o + 1, none⟩ = some (.int .i64 x.i)
  c2 : w.cell? ⟨b, o + 2, none⟩ = some (.int .i64 x.n)
  c3 : w.cell? ⟨b, o + 3, none⟩ = some (.int .i64 x.p.1)
  c4 : w.cell? ⟨b, o + 4, none⟩ = some (.string x.p.2)
  c5 : w.cell? ⟨b, o + 5, none⟩ = some (.int .i64 x.r.kind)
  c6 : w.cell? ⟨b, o + 6, none⟩ = some (.int .i64 x.r.txn)
  c7 : w.cell? ⟨b, o + 7, none⟩ = some (.int .i64 x.r.page)
  c8 : w.cell? ⟨b, o + 8, none⟩ = some (.int .i64 x.r.off)
  c9 : w.cell? ⟨b, o + 9, none⟩ = some (.int .i64 x.r.prev)
  c10 : w.cell? ⟨b, o + 10, none⟩ = some (.int .i64 x.r.next)
  c11 : w.cell? ⟨b, o + 11, none⟩ = some (.int .i64 x.r.beg)
  c12 : w.cell? ⟨b, o + 12, none⟩ = some (.string x.r.before)
  c13 : w.cell? ⟨b, o + 13, none⟩ = some (.string x.r.after)
  c14 : w.cell? ⟨b, o + 14, none⟩ = some vt
  c15 : w.cell? ⟨b, o + 15, none⟩ = some vp
theorem Op8At.mk' {w : World} {b o : Nat} {x : Op8} {vt vp : Value} (h : ∀ i u, (op8Cells x vt vp)[i]? = some u → w.cell? ⟨b, o + i, none⟩ = some u) : Op8At w b o x vt vp :=
  ⟨h 0 _ rfl, h 1 _ rfl, h 2 _ rfl, h 3 _ rfl, h 4 _ rfl, h 5 _ rfl, h 6 _ rfl, h 7 _ rfl, h 8 _ rfl, h 9 _ rfl, h 10 _ rfl, h 11 _ rfl, h 12 _ rfl, h 13 _ rfl, h 14 _ rfl, h 15 _ rfl⟩
theorem Op8At.keep {w w' : World} {b o : Nat} {x : Op8} {vt vp : Value} (h : Op8At w b o x vt vp) (hb : Below w.heap.size w w') : Op8At w' b o x vt vp := by
  have hlt := World.block_lt_of_cell? w ⟨b, o, none⟩ h.c0
  have k : ∀ x, w'.cell? ⟨b, x, none⟩ = w.cell? ⟨b, x, none⟩ := fun x => hb.cell (p := ⟨b, x, none⟩) hlt
  exact ⟨(k _).trans h.c0, (k _).trans h.c1, (k _).trans h.c2, (k _).trans h.c3, (k _).trans h.c4, (k _).trans h.c5, (k _).trans h.c6, (k _).trans h.c7, (k _).trans h.c8, (k _).trans h.c9, (k _).trans h.c10, (k _).trans h.c11, (k _).trans h.c12, (k _).trans h.c13, (k _).trans h.c14, (k _).trans h.c15⟩
theorem IsOps8.at_ {w : World} {v : Value} {l : List Op8} (h : IsOps8 w v l) (hl : 0 < l.length) : ∃ b off cap, v = .slice (some ⟨b, off, none⟩) l.length cap ∧ l.length ≤ cap ∧ cap ≤ maxLen ∧ b < w.heap.size ∧
    ∀ j (hj : j < l.length), ∃ ta tc pa pc, Lists w l[j].r (.slice ta l[j].r.txns.length tc) (.slice pa l[j].r.pages.length pc) ∧ Op8Wf l[j] ∧ Op8At w b (off + j * 16) l[j] (.slice ta l[j].r.txns.length tc) (.slice pa l[j].r.pages.length pc) := by
  rcases h.cases with ⟨rfl, _⟩ | ⟨b, off, cap, rfl, _, h2, h3, h4, h5⟩
  · simp at hl
  refine ⟨b, off, cap, rfl, h2, h3, h4, fun j hj => ?_⟩
  obtain ⟨cs, ⟨vt, vp, rfl, hl, hw⟩, hc⟩ := h5 j hj
  obtain ⟨ta, tc, e⟩ := hl.t.form
  obtain ⟨pa, pc, e'⟩ := hl.p.form
  subst e e'
  exact ⟨ta, tc, pa, pc, hl, hw, .mk' fun i u hu => hc i u (by rw [Array.getElem?_toList]; exact hu)⟩

def isLong8 (ops : List Op8) : Prop := (∃ o ∈ ops, 500 < o.p.2.size ∨ ¬ Fit o.r) ∨ 200 < ops.length
/-- The variable's cells, spelled as the walk spells them. -/
def op8Zero : Array Value := #[.int .i64 0, .int .i64 0, .int .i64 0, .int .i64 0, .string ⟨#[]⟩, .int .i64 0, .int .i64 0, .int .i64 0, .int .i64 0, .int .i64 0, .int .i64 0, .int .i64 0, .string ⟨#[]⟩, .string ⟨#[]⟩, .slice none 0 0, .slice none 0 0]
set_option maxHeartbeats 16000000 in
theorem long8_any (v : Value) (ops : List Op8) (w : World) (hr : IsOps8 w v ops) (yes : Bool) (hy : yes = true ↔ isLong8 ops) :
    Calls Tryz.prog 12 #[v] w fun e w' => e = .returned (.bool yes) ∧ Below w.heap.size w w' := by
  have HV := Lib.hid hr
  obtain ⟨a, cap, rfl, h1, h2, _⟩ := hr
  have hm : (ops.length : Int) ≤ 9223372036854775807 := by unfold maxLen at h2; omega
  have HY := Lib.hid hy
  clear h1 h2 hy
  go_enter Tryz.func12, Tryz.ntmps12
  go_wp2_with fail
  go_loopw [7] (fun vk wr => ∃ k : Nat, vk = .int .i64 k ∧ k ≤ ops.length ∧ Below w.heap.size w wr ∧ ∀ o ∈ ops.take k, ¬ 500 < o.p.2.size ∧ Fit o.r) (fun vk _ => ops.length - (intOf vk).toNat)
  case atStart => exact ⟨0, rfl, Nat.zero_le _, Below.refl _ _, fun o ho => by simp at ho⟩
  case round =>
    obtain ⟨k, rfl, hk, hB, hall⟩ := hrel
    have HB := Lib.hid hB
    have HALL := Lib.hid hall
    clear hB hall
    by_cases hlt : k < ops.length
    · obtain ⟨b, off, cap', hva, _, _, hbw, hel⟩ := HV.out.at_ (by omega)
      cases hva
      obtain ⟨ta, tc, pa, pc, hls0, hwf, hc⟩ := hel k hlt
      have HLS := Lib.hid (hls0.keep HB.out)
      have HSZ := Lib.hid hwf.sized
      have HIN : Hid (ops[k] ∈ ops) := List.getElem_mem hlt
      have HTK : Hid (ops.take (k + 1) = ops.take k ++ [ops[k]]) := by unfold Hid; rw [List.take_succ_eq_append_getElem hlt]
      have hd : (ops[k].p.2.size : Int) ≤ 9223372036854775807 := by have := hwf.data; unfold maxLen at this; omega
      obtain ⟨c0, c1, c2, c3, c4, c5, c6, c7, c8, c9, c10, c11, c12, c13, c14, c15⟩ := hc.keep HB.out
      clear hls0 hwf hel hc
      generalize ops[k] = o at *
      have hn := Blk.new wr 51 op8Zero
      have N3 := hn.setRow (op8Cells o (.slice ta o.r.txns.length tc) (.slice pa o.r.pages.length pc))
      have hb3 : Below wr.heap.size wr ((wr.alloc (.cells op8Zero 51)).setRow wr.heap.size (op8Cells o (.slice ta o.r.txns.length tc) (.slice pa o.r.pages.length pc))) := below_setRow ((Below.refl _ _).alloc (Nat.le_refl _) _) (Nat.le_refl _) _
      have HB3 := Lib.hid (below2 HB.out hb3)
      have HLS3 := Lib.hid (HLS.out.keep hb3)
      go_upto_region 4 with (refine wpList_store_row rfl 51 _ _ rfl wr.heap.size _ rfl rfl 51 _ hn (by kernel_rfl) rfl (by simp [Value.oneCell']) ?_)
      clear hn hb3 c0 c1 c2 c3 c4 c5 c6 c7 c8 c9 c10 c11 c12 c13 c14 c15 HLS HB hbw
      change Code.wp _ _ _ _ ((wr.alloc (.cells op8Zero 51)).setRow wr.heap.size (op8Cells o (.slice ta o.r.txns.length tc) (.slice pa o.r.pages.length pc)))
      generalize (wr.alloc (.cells op8Zero 51)).setRow wr.heap.size (op8Cells o (.slice ta o.r.txns.length tc) (.slice pa o.r.pages.length pc)) = w3 at *
      generalize wr.heap.size = x at *
      have IR : Hid (IsRec w3 (.agg (recCells o.r (.slice ta o.r.txns.length tc) (.slice pa o.r.pages.length pc))) o.r) := ⟨_, _, rfl, HLS3.out⟩
      have d4 : w3.cell? ⟨x, 4, none⟩ = some (.string o.p.2) := N3.cell 4
      have d5 : w3.cell? ⟨x, 5, none⟩ = some (.int .i64 o.r.kind) := N3.cell 5
      have d6 : w3.cell? ⟨x, 6, none⟩ = some (.int .i64 o.r.txn) := N3.cell 6
      have d7 : w3.cell? ⟨x, 7, none⟩ = some (.int .i64 o.r.page) := N3.cell 7
      have d8 : w3.cell? ⟨x, 8, none⟩ = some (.int .i64 o.r.off) := N3.cell 8
      have d9 : w3.cell? ⟨x, 9, none⟩ = some (.int .i64 o.r.prev) := N3.cell 9
      have d10 : w3.cell? ⟨x, 10, none⟩ = some (.int .i64 o.r.next) := N3.cell 10
      have d11 : w3.cell? ⟨x, 11, none⟩ = some (.int .i64 o.r.beg) := N3.cell 11
      have d12 : w3.cell? ⟨x, 12, none⟩ = some (.string o.r.before) := N3.cell 12
      have d13 : w3.cell? ⟨x, 13, none⟩ = some (.string o.r.after) := N3.cell 13
      have d14 : w3.cell? ⟨x, 14, none⟩ = some (.slice ta o.r.txns.length tc) := N3.cell 14
      have d15 : w3.cell? ⟨x, 15, none⟩ = some (.slice pa o.r.pages.length pc) := N3.cell 15
      by_cases hp2 : 500 < o.p.2.size
      · have hp3 : (500 : Int) < o.p.2.size := by omega
        have hyes : yes = true := HY.out.2 (.inl ⟨o, HIN.out, .inl hp2⟩)
        clear hp2
        go_wp2
        go_ret
        exact ⟨by first | rfl | (rw [hyes]; rfl), HB3.out⟩
      · have hp3 : ¬ (500 : Int) < o.p.2.size := by omega
        have HP2 := Lib.hid hp2
        clear hp2
        by_cases hf : Fit o.r
        · have FEW := Lib.hid (few_yes IR.out hf)
          have HF := Lib.hid hf
          clear hf
          go_wp2_with fail
          refine FEW.out.mono ?_
          rintro e w4 ⟨rfl, hb4⟩
          have HB4 := Lib.hid (below2 HB3.out hb4)
          have HALL2 : Hid (∀ q ∈ ops.take (k + 1), ¬ 500 < q.p.2.size ∧ Fit q.r) := fun q hq => by
            rw [HTK.out] at hq
            rcases List.mem_append.1 hq with hq | hq
            · exact HALL.out q hq
            · simp at hq; subst hq; exact ⟨HP2.out, HF.out⟩
          clear hb4 HB3 N3 HLS3 IR FEW HALL d4 d5 d6 d7 d8 d9 d10 d11 d12 d13 d14 d15
          go_wp2
          go_roundw
          case rel => exact ⟨k + 1, by go_num, by omega, HB4.out, HALL2.out⟩
          case measure => simp [intOf]; omega
        · have FEW := Lib.hid (few_no IR.out HSZ.out hf)
          have hyes : yes = true := HY.out.2 (.inl ⟨o, HIN.out, .inr hf⟩)
          clear hf
          go_wp2_with fail
          refine FEW.out.mono ?_
          rintro e w4 ⟨rfl, hb4⟩
          have HB4 := Lib.hid (below2 HB3.out hb4)
          clear hb4 HB3 N3 HLS3 IR FEW d4 d5 d6 d7 d8 d9 d10 d11 d12 d13 d14 d15
          go_wp2
          go_ret
          exact ⟨by first | rfl | (rw [hyes]; rfl), HB4.out⟩
    · obtain rfl : k = ops.length := by omega
      have hyes : yes = decide ((200 : Int) < ops.length) := by
        have hall := HALL.out
        rw [List.take_length] at hall
        have h2 : isLong8 ops ↔ (200 : Int) < ops.length := by
          unfold isLong8
          constructor
          · rintro (⟨o, ho, h⟩ | h)
            · have := hall o ho
              rcases h with h | h
              · exact absurd h this.1
              · exact absurd this.2 h
            · omega
          · intro h; exact .inr (by omega)
        by_cases h : (200 : Int) < ops.length
        · rw [decide_eq_true h]; exact HY.out.2 (h2.2 h)
        · rw [decide_eq_false h]
          cases hyy : yes with
          | true => exact absurd (h2.1 (HY.out.1 hyy)) h
          | false => rfl
      go_wp2
      go_ret
      exact ⟨by rw [hyes]; rfl, HB.out⟩
end Go.Proofs.YtpiaknmjepjglaaGreat

/- careenlaw08.PoolKeeps: a record is appended; the pages that are wanted, in an array. -/
namespace Go.Proofs.YtpiaknmjepjglaaGreat
open Go.RowKit

theorem Wl.app_rest (l : Wl) (r : Rc) : (l.app r).2.2.base = l.base ∧ (l.app r).2.2.size = l.size ∧ (l.app r).2.2.epoch = l.epoch := by
  by_cases hm : May r
  · rw [Wl.app_may hm]
    show (l.put r).base = _ ∧ (l.put r).size = _ ∧ (l.put r).epoch = _
    unfold Wl.put; split
    · exact ⟨rfl, rfl, rfl⟩
    · split <;> exact ⟨rfl, rfl, rfl⟩
  · rw [Wl.app_not hm]; exact ⟨rfl, rfl, rfl⟩
theorem Wl.Ok.app {l : Wl} (h : l.Ok) (r : Rc) : (l.app r).2.2.Ok := by
  by_cases hm : May r
  · rw [Wl.app_may hm]; exact h.put hm (lay_short hm)
  · rw [Wl.app_not hm]; exact h
section
variable {base n : Nat} {Y : Y8}
theorem Ok8.append (h : Ok8 base n Y) (r : Rc) : Ok8 base n { Y with lg := (Y.lg.app r).2.2 } :=
  have k := Wl.app_rest Y.lg r
  ⟨h.len1, h.len8, h.hand, h.uniq, h.fr, h.n1, h.n8, h.dk, h.lok.app r, (by show (Y.lg.app r).2.2.epoch < _; rw [k.2.2]; exact h.ep), h.room, (by show _ ≤ (Y.lg.app r).2.2.base; rw [k.1]; exact h.above), (by show (Y.lg.app r).2.2.base + (Y.lg.app r).2.2.size ≤ _; rw [k.1, k.2.1]; exact h.ring), h.alive⟩
end
theorem p8_append {w : World} {F : Foot} {A : A8} {Y : Y8} {v : Value} {r : Rc} (h : Pool8 w F A Y) (hv : IsRec w v r) (hf : Fit r) :
    Calls Tryz.prog 23 #[.pointer (some ⟨A.g, 0, none⟩), v] w (Out8 w F A { Y with lg := (Y.lg.app r).2.2 } (.tuple #[.int .i64 (Y.lg.app r).1, .int .i64 (Y.lg.app r).2.1])) := by
  obtain ⟨FD, FL, h, rfl⟩ := h
  refine (append_any h.log hv hf).mono ?_
  rintro e w' ⟨he, F', hl, hs⟩
  obtain ⟨k1, k2⟩ := h.sys.onLog hl hs
  obtain ⟨k3, k4⟩ := h.onLog k1 k2 (h.ok.append r)
  exact ⟨he, _, ⟨_, _, k3, rfl⟩, k4⟩
/-- A record that was taken lies below the log's end. -/
theorem Wl.app_below {l : Wl} (ok : l.Ok) {r : Rc} (h : (l.app r).2.1 = 0) : ((l.app r).1 : Int).toNat / 128 < (l.app r).2.2.end_ ∧ (l.app r).2.2.first = l.first ∧ l.end_ ≤ (l.app r).2.2.end_ := by
  obtain ⟨h1, h2, h3, h4⟩ := Wl.app_zero h
  rw [h3, h4]
  obtain ⟨s, rs, e1, e2, _, _, _, e6, _, e8, _, _, _⟩ := Wl.put_where ok h2
  refine ⟨by rw [Int.toNat_natCast]; omega, e8, ?_⟩
  unfold Wl.put
  split
  · rename_i hj
    have hlt : 0 < l.secs.length := by have := hj.1; have := ok.fl; unfold Wl.end_ at *; omega
    obtain ⟨i, x, e⟩ := Wl.snoc_of hlt
    unfold Wl.end_
    simp only [e, List.dropLast_concat, Wl.lastD_snoc, List.length_append, List.length_singleton]; omega
  · split
    · unfold Wl.end_; simp
    · exact Nat.le_refl _
theorem applyR_right {a : Int} {d : ByteArray} {x : Int} {r : Rc} (h : PgOk a d) : PgOk (applyR a d x r).1 (applyR a d x r).2 := by
  unfold applyR
  split
  · rename_i hc
    obtain ⟨_, _, hc⟩ := hc
    unfold putR at hc ⊢
    rw [if_pos h] at hc ⊢
    by_cases hx : Num x
    · rw [if_pos hx] at hc ⊢
      by_cases ho : InPage r.off r.after.size
      · rw [if_pos ho]
        refine ⟨hx, ?_⟩
        have := ho.1
        have := ho.2.2
        show (putS d r.off.toNat r.after).size = 220
        rw [putS_size (by rw [h.2]; omega)]; exact h.2
      · rw [if_neg ho] at hc; cases hc
    · rw [if_neg hx] at hc; cases hc
  · exact h
theorem applyR_at (a : Int) (d : ByteArray) (x : Int) (r : Rc) : (applyR a d x r).1 = x ∨ applyR a d x r = (a, d) := by
  unfold applyR
  split
  · rename_i hc
    obtain ⟨_, _, hc⟩ := hc
    left
    unfold putR at hc ⊢
    split at hc
    · rename_i h1
      rw [if_pos h1]
      split at hc
      · rename_i h2
        rw [if_pos h2]
        split at hc
        · rename_i h3; rw [if_pos h3]
        · cases hc
      · cases hc
    · cases hc
  · exact .inr rfl
/-- The pages that are wanted, as they lie. -/
def wantCells (q : Nat → Pag) : Array Value := #[.int .i64 (q 0).1, .string (q 0).2, .int .i64 (q 1).1, .string (q 1).2, .int .i64 (q 2).1, .string (q 2).2, .int .i64 (q 3).1, .string (q 3).2, .int .i64 (q 4).1, .string (q 4).2, .int .i64 (q 5).1, .string (q 5).2, .int .i64 (q 6).1, .string (q 6).2, .int .i64 (q 7).1, .string (q 7).2]
theorem wantCells_at (q : Nat → Pag) : ∀ i : Nat, i < 8 → (wantCells q)[i * 2]? = some (.int .i64 (q i).1) ∧ (wantCells q)[i * 2 + 1]? = some (.string (q i).2)
  | 0, _ => ⟨rfl, rfl⟩
  | 1, _ => ⟨rfl, rfl⟩
  | 2, _ => ⟨rfl, rfl⟩
  | 3, _ => ⟨rfl, rfl⟩
  | 4, _ => ⟨rfl, rfl⟩
  | 5, _ => ⟨rfl, rfl⟩
  | 6, _ => ⟨rfl, rfl⟩
  | 7, _ => ⟨rfl, rfl⟩
  | _ + 8, h => by omega
theorem wantCells_put (q : Nat → Pag) (x : Pag) : ∀ i : Nat, i < 8 → ((wantCells q).setIfInBounds (i * 2) (.int .i64 x.1)).setIfInBounds (i * 2 + 1) (.string x.2) = wantCells (putP q i x)
  | 0, _ => rfl
  | 1, _ => rfl
  | 2, _ => rfl
  | 3, _ => rfl
  | 4, _ => rfl
  | 5, _ => rfl
  | 6, _ => rfl
  | 7, _ => rfl
  | _ + 8, h => by omega
theorem putP_id (q : Nat → Pag) (i : Nat) : putP q i (q i) = q := by
  funext k
  unfold putP
  split
  · rename_i h; rw [h]
  · rfl
end Go.Proofs.YtpiaknmjepjglaaGreat

/- careenlaw08.PoolKeeps: all that stands between its calls. -/
namespace Go.Proofs.YtpiaknmjepjglaaGreat
open Go.RowKit

theorem Live8.cells {w0 w : World} {F : Foot} {A : A8} {Y : Y8} (h : Live8 w0 w F A Y) {b : Nat} (hb : ¬ F b) (hn : w0.heap.size ≤ b) (i : Nat) (u : Value) : Live8 w0 (w.setCell ⟨b, i, none⟩ u) F A Y :=
  h.apart (G := fun c => c = b) ((Step.refl (fun c => c = b) w).set rfl u) fun c hc => by subst hc; exact ⟨hb, hn⟩
theorem Blk.cellW {w : World} {g t : Nat} {q : Nat → Pag} (h : Blk w g t (wantCells q)) {i : Nat} (hi : i < 8) : w.cell? ⟨g, i * 2, none⟩ = some (.int .i64 (q i).1) ∧ w.cell? ⟨g, i * 2 + 1, none⟩ = some (.string (q i).2) := by
  have k := wantCells_at q i hi
  exact ⟨by rw [h.cell]; exact k.1, by rw [h.cell]; exact k.2⟩
def putW (w : World) (b i : Nat) (x : Pag) : World := (w.setCell ⟨b, i * 2, none⟩ (.int .i64 x.1)).setCell ⟨b, i * 2 + 1, none⟩ (.string x.2)
theorem Blk.putW {w : World} {g t : Nat} {q : Nat → Pag} (h : Blk w g t (wantCells q)) {i : Nat} (hi : i < 8) (x : Pag) : Blk (putW w g i x) g t (wantCells (putP q i x)) := by
  have k := (h.set (i * 2) (.int .i64 x.1)).set (i * 2 + 1) (.string x.2)
  rw [wantCells_put q x i hi] at k
  exact k
theorem putW_other (w : World) (b i : Nat) (x : Pag) {c : Nat} (hc : c ≠ b) : (putW w b i x).heap[c]? = w.heap[c]? := by
  unfold putW
  rw [heap_setCell_other _ _ _ _ hc, heap_setCell_other _ _ _ _ hc]
section
variable {base n : Nat} {Y : Y8} {want : Nat → Pag}
theorem empty_end (h : Ok8 base n Y) (q : Y.Free) {k : Nat} {f : Fr8} (hk : Y.l[k]? = some (some f)) : (Y.emptyY base k f).1.lg.end_ = Y.lg.end_ := by
  rw [(empty_free h q hk).2.2.2.1]
  split
  · exact aheadLg_end _ _
  · rfl
theorem room_end (h : Ok8 base n Y) (q : Keep8 n want Y) : (Y.roomY base).1.lg.end_ = Y.lg.end_ := by
  cases hf : free Y.l with
  | some k => rw [roomY_free hf]
  | none =>
    obtain ⟨f, hk⟩ := h.full hf
    rw [roomY_full hf hk]
    split
    · exact empty_end h q.pow hk
    · exact empty_end h q.pow hk
theorem fetch_end (h : Ok8 base n Y) (q : Keep8 n want Y) (i : Nat) : (Y.fetchY base i).1.lg.end_ = Y.lg.end_ := by
  unfold Y8.fetchY
  split
  · split
    · exact room_end h q
    · exact room_end h q
  · exact room_end h q
theorem get_end (h : Ok8 base n Y) (q : Keep8 n want Y) (i : Int) : (Y.getY base n i).1.lg.end_ = Y.lg.end_ := by
  unfold Y8.getY
  split
  · cases holds Y.l i with
    | some k => rfl
    | none =>
      simp only
      split
      · exact fetch_end h q _
      · exact fetch_end h q _
  · rfl
end
/-- The first k of them. -/
def fillPg (k : Nat) : Nat → Pag := fun j => if j < k then emptyPg else (0, ⟨#[]⟩)
theorem fillPg_put (k : Nat) : putP (fillPg k) k emptyPg = fillPg (k + 1) := by
  funext j
  unfold putP fillPg
  by_cases h1 : j = k
  · subst h1
    rw [if_pos rfl, if_pos (Nat.lt_succ_self _)]
  · rw [if_neg h1]
    by_cases h2 : j < k
    · rw [if_pos h2, if_pos (by omega)]
    · rw [if_neg h2, if_neg (by omega)]
/-- The sizes, the pages that are wanted, the pool with all that it stands over. -/
structure K8 (w1 : World) (p f g zb wb : Nat) (A : A8) (w : World) (F : Foot) (Y : Y8) (q qa : Nat → Pag) : Prop where
  live : Live8 w1 w F A Y
  keep : Keep8 p q Y
  len : Y.l.length = f
  num : A.n = p
  zlt : zb < w1.heap.size
  wge : w1.heap.size ≤ wb
  sz : Blk w zb 23 #[.int .i64 p, .int .i64 f, .int .i64 g]
  wt : Blk w wb 79 (wantCells qa)
  wout : ¬ F wb
  right : ∀ i, (qa i).Right
namespace K8
variable {w1 w w' : World} {p f g zb wb : Nat} {A : A8} {F F' : Foot} {Y Y' : Y8} {q q' qa : Nat → Pag}
theorem more (h : K8 w1 p f g zb wb A w F Y q qa) (hb : Below w.heap.size w w') : K8 w1 p f g zb wb A w' F Y q qa :=
  ⟨h.live.more hb, h.keep, h.len, h.num, h.zlt, h.wge, h.sz.keep hb h.sz.lt, h.wt.keep hb h.wt.lt, h.wout, h.right⟩
theorem step (h : K8 w1 p f g zb wb A w F Y q qa) (hp : Pool8 w' F' A Y') (hs : Step F F' w w') (hk : Keep8 p q' Y') (hl : Y'.l.length = f) : K8 w1 p f g zb wb A w' F' Y' q' qa :=
  ⟨h.live.step hp hs, hk, hl, h.num, h.zlt, h.wge, (hs.block zb h.sz.lt fun e => by have := h.live.newF _ e; have := h.zlt; omega).trans h.sz, (hs.block wb h.wt.lt h.wout).trans h.wt, fun e => (hs.foot wb e).elim h.wout fun e => by have := h.wt.lt; omega, h.right⟩
theorem lay (h : K8 w1 p f g zb wb A w F Y q qa) {i : Nat} (hi : i < 8) {x : Pag} (hx : x.Right) : K8 w1 p f g zb wb A (putW w wb i x) F Y q (putP qa i x) :=
  ⟨(h.live.cells h.wout h.wge _ _).cells h.wout h.wge _ _, h.keep, h.len, h.num, h.zlt, h.wge, (putW_other w wb i x (by have := h.zlt; have := h.wge; omega)).trans h.sz, Blk.putW h.wt hi x, h.wout, fun k => by unfold putP; split; exact hx; exact h.right k⟩
/-- Another block of the walk's own is written. -/
theorem set (h : K8 w1 p f g zb wb A w F Y q qa) {b : Nat} (hb : ¬ F b) (hn : w1.heap.size ≤ b) (hw : b ≠ wb) (i : Nat) (u : Value) : K8 w1 p f g zb wb A (w.setCell ⟨b, i, none⟩ u) F Y q qa :=
  ⟨h.live.cells hb hn _ _, h.keep, h.len, h.num, h.zlt, h.wge, h.sz.far (by have := h.zlt; show zb ≠ b; omega) _, h.wt.far (show wb ≠ b from fun e => hw e.symm) _, h.wout, h.right⟩
theorem get (h : K8 w1 p f g zb wb A w F Y q qa) {i : Nat} (hi : i < p) (ht : Y.t < 4294967295) :
    Calls Tryz.prog 15 #[.pointer (some ⟨A.q, 0, none⟩), .int .i64 i] w fun e w' => e = .returned (.tuple #[.agg #[.int .i64 (q i).1, .string (q i).2], .int .i64 0]) ∧ ∃ F' Y', K8 w1 p f g zb wb A w' F' Y' q qa ∧ Y'.t ≤ Y.t + 1 ∧ (∃ k, holds Y'.l (i : Int) = some k) ∧ Y'.lg.end_ = Y.lg.end_ ∧ Step F F' w w' := by
  have GT := poGet_any h.live.pool (i : Int) (by omega)
  have hok := h.live.pool.ok
  rw [h.num] at hok GT
  have hgl := get_len hok (i : Int)
  have hge := get_end hok h.keep (i : Int)
  have hgt := (hok.get (i : Int)).2.2
  obtain ⟨Y', hy, hkp, hki⟩ := h.keep.get hok hi
  rw [hy] at GT hgl hgt hge
  refine GT.mono ?_
  rintro e w' ⟨he, F', hp, hs⟩
  exact ⟨he, F', Y', h.step hp hs hkp (by rw [← h.len]; exact hgl), hgt, hki, hge, hs⟩
theorem evict (h : K8 w1 p f g zb wb A w F Y q qa) (k : Int) (ht : Y.t < 4294967295) :
    Calls Tryz.prog 19 #[.pointer (some ⟨A.q, 0, none⟩), .int .i64 k] w fun e w' => (∃ er : Int, e = .returned (.int .i64 er)) ∧ ∃ F' Y', K8 w1 p f g zb wb A w' F' Y' q qa ∧ Y'.t ≤ Y.t + 1 ∧ Step F F' w w' := by
  have hok := h.live.pool.ok
  rw [h.num] at hok
  have k1 := h.keep.evict hok k
  have k2 := (hok.evict k).2
  have k3 := evict_len hok k
  refine (poEvict_any h.live.pool k (by omega)).mono ?_
  rintro e w' ⟨he, F', hp, hs⟩
  exact ⟨⟨_, he⟩, F', _, h.step hp hs k1 (by rw [k3]; exact h.len), by omega, hs⟩
theorem append (h : K8 w1 p f g zb wb A w F Y q qa) {v : Value} {r : Rc} (hv : IsRec w v r) (hf : Fit r) :
    Calls Tryz.prog 23 #[.pointer (some ⟨A.g, 0, none⟩), v] w fun e w' => ∃ (at_ er : Nat), e = .returned (.tuple #[.int .i64 at_, .int .i64 er]) ∧ ∃ F' Y', K8 w1 p f g zb wb A w' F' Y' q qa ∧ Y'.t = Y.t ∧ (er = 0 → (at_ : Int).toNat / 128 < Y'.lg.end_) ∧ Step F F' w w' := by
  refine (p8_append h.live.pool hv hf).mono ?_
  rintro e w' ⟨he, F', hp, hs⟩
  refine ⟨_, _, he, F', _, h.step hp hs ?_ h.len, rfl, fun e0 => (Wl.app_below h.live.pool.ok.lok e0).1, hs⟩
  by_cases e0 : (Y.lg.app r).2.1 = 0
  · obtain ⟨_, b2, b3⟩ := Wl.app_below h.live.pool.ok.lok e0
    exact h.keep.log b3 b2
  · rw [Wl.app_same e0]
    exact h.keep.log (Nat.le_refl _) rfl
theorem put (h : K8 w1 p f g zb wb A w F Y q qa) {i k : Nat} (hh : holds Y.l (i : Int) = some k) {x : Pag} (hx : x.Right) (ha : x.1.toNat / 128 < Y.lg.end_) :
    Calls Tryz.prog 17 #[.pointer (some ⟨A.q, 0, none⟩), .int .i64 i, .agg #[.int .i64 x.1, .string x.2]] w fun e w' => e = .returned (.int .i64 0) ∧ ∃ F' Y', K8 w1 p f g zb wb A w' F' Y' (putP q i x) qa ∧ Y'.t = Y.t ∧ Step F F' w w' := by
  have hok := h.live.pool.ok
  rw [h.num] at hok
  obtain ⟨k1, k2⟩ := h.keep.put hok hh hx ha
  have k3 : (Y.putY i x).1.l.length = Y.l.length ∧ (Y.putY i x).1.t = Y.t := by
    obtain ⟨fr, hk, hno⟩ := holds_some hh
    unfold Y8.putY
    rw [hh]
    simp only
    rw [if_pos (show PgOk x.1 x.2 from hx), setPg_some hk]
    exact ⟨by simp, rfl⟩
  have PT := poPut_any h.live.pool (i : Int) x
  rw [k1] at PT
  refine PT.mono ?_
  rintro e w' ⟨he, F', hp, hs⟩
  exact ⟨he, F', _, h.step hp hs k2 (by rw [k3.1]; exact h.len), k3.2, hs⟩
theorem read (h : K8 w1 p f g zb wb A w F Y q qa) {k : Nat} (hk : k < p) (ht : Y.t ≤ 4294967296) :
    Calls Tryz.prog 33 #[.pointer (some ⟨A.s, 0, none⟩), .int .i64 k] w fun e w' => e = .returned (.tuple #[.agg #[.int .i64 (Y.P k).1, .string (Y.P k).2], .int .i64 0]) ∧ Below w.heap.size w w' :=
  p8_read h.live.pool h.keep.pow.gone (by rw [h.num]; exact hk) ht
theorem safe_or (h : K8 w1 p f g zb wb A w F Y q qa) {k : Nat} (hk : k < p) : (Y.P k).1 = 0 ∨ (0 < (Y.P k).1 ∧ (Y.P k).1 ≤ 2147483647 ∧ Y.lg.safeAt (Y.P k).1) := by
  have hok := h.live.pool.ok
  rw [h.num] at hok
  obtain ⟨σ, hc⟩ := hok.calm h.keep.pow.gone
  have hr := (hc.right hk).1
  have := hr.1
  have := hr.2
  rcases h.keep.safe k hk with e | e
  · exact .inl e
  · by_cases e0 : (Y.P k).1 = 0
    · exact .inl e0
    · exact .inr ⟨by omega, by omega, e⟩
theorem safe (h : K8 w1 p f g zb wb A w F Y q qa) {a : Int} (h0 : 0 < a) (h1 : a ≤ 2147483647) (h2 : Y.lg.safeAt a) :
    Calls Tryz.prog 39 #[.pointer (some ⟨A.g, 0, none⟩), .int .i64 a] w fun e w' => e = .returned (.bool true) ∧ w = w' :=
  p8_safe h.live.pool (by omega) h1 true (by simp [h2])
end K8
end Go.Proofs.YtpiaknmjepjglaaGreat

/- careenlaw08.PoolKeeps: the walk. (By gen/genkeeps8.py.) -/
namespace Go.Proofs.YtpiaknmjepjglaaGreat
open Go.RowKit

theorem str_toList {s t : ByteArray} (h : s.toList = t.toList) : s = t := by
  rw [ByteArray.toList_eq, ByteArray.toList_eq] at h
  exact str_ext h
/-- A page isn't unlike itself. -/
theorem wp_page_neq_same {ops : Array Oper} {rest : List Oper} {o : Oper} {a : Act} {w : World} {Q : Exit → Act → World → Prop} (x y : Operand) (ty : TypeId) (ho : o.op = .binOp .neq 45 x y ty)
    (hw : Region.wanted o (yielded ops a.tmps) = true) (A : Int) (D : ByteArray) (hx : a.eval x = .agg #[.int .i64 A, .string D]) (hy : a.eval y = .agg #[.int .i64 A, .string D])
    (h : wpList Tryz.prog ops Q rest (a.put o.dst (.bool false)) w) : wpList Tryz.prog ops Q (o :: rest) a w :=
  wp_page_neq x y ty ho hw A A D D hx hy (by simpa using h)
/-- It is unlike another one. -/
theorem wp_page_neq_other {ops : Array Oper} {rest : List Oper} {o : Oper} {a : Act} {w : World} {Q : Exit → Act → World → Prop} (x y : Operand) (ty : TypeId) (ho : o.op = .binOp .neq 45 x y ty)
    (hw : Region.wanted o (yielded ops a.tmps) = true) (A A' : Int) (D D' : ByteArray) (hne : ((A, D) : Pag) ≠ (A', D')) (hx : a.eval x = .agg #[.int .i64 A, .string D]) (hy : a.eval y = .agg #[.int .i64 A', .string D'])
    (h : wpList Tryz.prog ops Q rest (a.put o.dst (.bool true)) w) : wpList Tryz.prog ops Q (o :: rest) a w := by
  refine wp_page_neq x y ty ho hw A A' D D' hx hy ?_
  have e : (A == A' && D.toList == D'.toList) = false := by
    by_cases h1 : A = A'
    · subst h1
      have h2 : D.toList ≠ D'.toList := fun e => hne (by rw [str_toList e])
      simp [h2]
    · simp [h1]
  rw [e]
  exact h

set_option maxRecDepth 100000 in
set_option maxHeartbeats 64000000 in
/-- Sizes that may be, a script that is played. -/
theorem keeps_go (p f g : Nat) (p1 : 1 ≤ p) (p8 : p ≤ 8) (f1 : 1 ≤ f) (f8 : f ≤ 8) (g8 : 8 ≤ g) (g64 : g ≤ 64) (v : Value) (ops : List Op8) (w : World) (hv : IsOps8 w v ops) (hl : ¬ isLong8 ops) :
    Calls Tryz.prog 4 #[.agg #[.int .i64 p, .int .i64 f, .int .i64 g], v] w fun e w' => e = .returned (.bool true) ∧ Below w.heap.size w w' := by
  have X0 := Blk.new w 23 #[.int .i64 p, .int .i64 f, .int .i64 g]
  have hb0 := (Below.refl w.heap.size w).alloc (Nat.le_refl _) (.cells #[.int .i64 p, .int .i64 f, .int .i64 g] 23)
  have MK := Lib.hid (fun W => made_ok (w := W) p f g p1 p8 f1 f8 g8 g64)
  have KN := Lib.hid (Keep8.new (f := f) p1 p8 g8 g64)
  have HL : Hid (ops.length ≤ 200) := by unfold isLong8 at hl; have := fun h => hl (.inr h); exact Nat.le_of_not_lt this
  have HFIT : Hid (∀ o ∈ ops, Fit o.r) := by
    unfold isLong8 at hl
    intro o ho
    exact Classical.byContradiction fun h => hl (.inl ⟨o, ho, .inr h⟩)
  have hLN := hl
  have hpI : (1 : Int) ≤ p ∧ (p : Int) ≤ 8 := by omega
  have hfI : (1 : Int) ≤ f ∧ (f : Int) ≤ 8 := by omega
  have HP8 := Lib.hid p8
  clear p1 p8 f1 f8 g8 g64 hl
  obtain ⟨hp1, hp2⟩ := hpI
  obtain ⟨hf1, hf2⟩ := hfI
  go_enter Tryz.func4, Tryz.ntmps4
  go_upto_region 1 with fail
  change Code.wp _ _ _ _ (w.alloc (.cells #[.int .i64 p, .int .i64 f, .int .i64 g] 23))
  have HB0 := Lib.hid hb0
  have HV0 := Lib.hid (hv.keep hb0)
  clear hb0 hv
  generalize w.alloc (.cells #[.int .i64 p, .int .i64 f, .int .i64 g] 23) = w1 at *
  have HB1 : Hid (∀ w', Below w1.heap.size w1 w' → Below w.heap.size w w') := Lib.hid fun w' h => HB0.out.trans (h.mono HB0.out.size)
  generalize hzb : w.heap.size = zb at *
  have HZB := Lib.hid hzb
  clear hzb
  go_wp2_with (refine wpList_load_row rfl 23 _ rfl zb rfl 23 _ (0, 0) _ X0 Tryz.underlying23 rfl (by kernel_rfl) ?_)
  refine (MK.out _).mono ?_
  rintro e w2 ⟨F, A, rfl, hlv, hn, hb⟩
  have L2 := Lib.hid hlv
  have HN := Lib.hid hn
  have X2 := X0.keep hlv.below X0.lt
  have HZ1 := Lib.hid X0.lt
  clear hlv hn hb MK X0
  go_wp2_with fail
  refine (awake8 _).mono ?_
  rintro e w3 ⟨rfl, hb3⟩
  have L3 := Lib.hid (L2.out.more hb3)
  have HV3 := Lib.hid (HV0.out.keep (L3.out.below))
  have X3 := X2.keep hb3 X2.lt
  clear hb3 L2 X2
  have LG := Lib.hid (long8_any v ops w3 HV3.out false (by simp [hLN]))
  clear hLN
  go_wp2_with fail
  refine LG.out.mono ?_
  rintro e w4 ⟨rfl, hb4⟩
  have L4 := Lib.hid (L3.out.more hb4)
  have X4 := Lib.hid (X3.keep hb4 X3.lt)
  clear hb4 L3 X3 LG HV3
  obtain ⟨va, vcap, rfl, hv1, hv2, _⟩ := id HV0.out
  have hlm : (ops.length : Int) ≤ 200 := by have := HL.out; omega
  clear hv1 hv2
  have HW4 : Hid (¬ F w4.heap.size) := fun e => by have := L4.out.pool.lt _ e; omega
  have HW1 : Hid (w1.heap.size ≤ w4.heap.size) := L4.out.below.size
  have W5 := Blk.new w4 79 (wantCells (fillPg 0))
  have L5 := Lib.hid (L4.out.more ((Below.refl _ _).alloc (Nat.le_refl _) (.cells (wantCells (fillPg 0)) 79)))
  have X5 := Lib.hid (X4.out.alloc (.cells (wantCells (fillPg 0)) 79))
  go_upto_region 5 with fail
  change Code.wp _ _ _ _ (w4.alloc (.cells (wantCells (fillPg 0)) 79))
  clear L4 X4
  generalize w4.alloc (.cells (wantCells (fillPg 0)) 79) = w5 at *
  generalize w4.heap.size = wb at *
  go_wp2_with fail
  go_loopw [43] (fun vk wk => ∃ k : Nat, vk = .int .i64 k ∧ k ≤ 8 ∧ Live8 w1 wk F A (Y8.new f g) ∧ Blk wk zb 23 #[.int .i64 p, .int .i64 f, .int .i64 g] ∧ Blk wk wb 79 (wantCells (fillPg k))) (fun vk _ => 8 - (intOf vk).toNat)
  case atStart => exact ⟨0, rfl, Nat.zero_le _, L5.out, X5.out, W5⟩
  case round =>
    obtain ⟨k, rfl, hk8, hlk, hxk, hwk⟩ := hrel
    have LK := Lib.hid hlk
    have XK := Lib.hid hxk
    clear hlk hxk W5 L5 X5
    by_cases hlt : k < 8
    · have HWZ : Hid (zb ≠ wb) := by show _ ≠ _; have := HZ1.out; have := HW1.out; omega
      go_wp2_with fail
      refine (pgRefEmpty_any _).mono ?_
      rintro e w6 ⟨rfl, hb6⟩
      have L6 := Lib.hid (LK.out.more hb6)
      have X6 := Lib.hid (XK.out.keep hb6 XK.out.lt)
      have W6 := hwk.keep hb6 hwk.lt
      have c0 := (Blk.cellW W6 hlt).1
      have c1 := (Blk.cellW W6 hlt).2
      have W7 := Blk.putW W6 hlt emptyPg
      rw [fillPg_put] at W7
      have W7' := Lib.hid W7
      have fz : ∀ i, w6.frozen? ⟨wb, i, none⟩ = false := fun i => W6.frozen i
      clear hwk hb6 LK XK W7
      go_wp2_with fail
      go_roundw
      case rel => exact ⟨k + 1, by go_num, by omega, (L6.out.cells HW4.out HW1.out _ _).cells HW4.out HW1.out _ _, (putW_other w6 wb k emptyPg HWZ.out).trans X6.out, W7'.out⟩
      case measure => simp [intOf]; omega
    · obtain rfl : k = 8 := by omega
      have KA : Hid (K8 w1 p f g zb wb A wr F (Y8.new f g) (fun _ => emptyPg) (fun _ => emptyPg)) := ⟨LK.out, KN.out, by simp [Y8.new], HN.out, HZ1.out, HW1.out, XK.out, hwk, HW4.out, fun _ => emptyPg_right⟩
      clear hwk LK XK KN HN HW4 HW1 HZ1
      go_wp2_with fail

      go_loopw [52] (fun vj wr => ∃ (j : Nat) (F : Foot) (Y : Y8) (q : Nat → Pag), vj = .int .i64 j ∧ j ≤ ops.length ∧ Y.t ≤ 1 + j ∧ K8 w1 p f g zb wb A wr F Y q q) (fun vj _ => ops.length - (intOf vj).toNat)
      case atStart => exact ⟨0, F, _, _, rfl, Nat.zero_le _, by simp [Y8.new], KA.out⟩
      case round =>
        obtain ⟨j, F, Y, q, rfl, hjl, htj, hka⟩ := hrel
        have K0 := Lib.hid hka
        have HT := Lib.hid htj
        clear hka htj KA
        by_cases hlt : j < ops.length
        · obtain ⟨ob, off, cap', hva, _, _, hbw, hel⟩ := HV0.out.at_ (by omega)
          cases hva
          obtain ⟨ta, tc, pa, pc, hls0, hwf, hc⟩ := hel j hlt
          have HLS := Lib.hid hls0
          have HFO := Lib.hid (HFIT.out _ (List.getElem_mem hlt))
          obtain ⟨c0, c1, c2, c3, c4, c5, c6, c7, c8, c9, c10, c11, c12, c13, c14, c15⟩ := hc.keep K0.out.live.below
          clear hel hc hwf hls0
          generalize ops[j] = o at *
          have hn := Blk.new wr 51 op8Zero
          have N5 := hn.setRow (op8Cells o (.slice ta o.r.txns.length tc) (.slice pa o.r.pages.length pc))
          have hb3 : Below wr.heap.size wr ((wr.alloc (.cells op8Zero 51)).setRow wr.heap.size (op8Cells o (.slice ta o.r.txns.length tc) (.slice pa o.r.pages.length pc))) := below_setRow ((Below.refl _ _).alloc (Nat.le_refl _) _) (Nat.le_refl _) _
          have K5 := Lib.hid (K0.out.more hb3)
          have HXF : Hid (¬ F wr.heap.size) := fun e => by have := K0.out.live.pool.lt _ e; omega
          have HXN : Hid (w1.heap.size ≤ wr.heap.size) := K0.out.live.below.size
          have HXW : Hid (wr.heap.size ≠ wb) := by have := K0.out.wt.lt; show _ ≠ _; omega
          go_upto_region 13 with (refine wpList_store_row rfl 51 _ _ rfl wr.heap.size _ rfl rfl 51 _ hn (by kernel_rfl) rfl (by simp [Value.oneCell']) ?_)
          clear hn hb3 c0 c1 c2 c3 c4 c5 c6 c7 c8 c9 c10 c11 c12 c13 c14 c15 hbw K0
          change Code.wp _ _ _ _ ((wr.alloc (.cells op8Zero 51)).setRow wr.heap.size (op8Cells o (.slice ta o.r.txns.length tc) (.slice pa o.r.pages.length pc)))
          generalize (wr.alloc (.cells op8Zero 51)).setRow wr.heap.size (op8Cells o (.slice ta o.r.txns.length tc) (.slice pa o.r.pages.length pc)) = w5 at *
          generalize wr.heap.size = x at *
          have d0 : w5.cell? ⟨x, 0, none⟩ = some (.int .i64 o.kind) := N5.cell 0
          have d1 : w5.cell? ⟨x, 1, none⟩ = some (.int .i64 o.i) := N5.cell 1
          have d2 : w5.cell? ⟨x, 2, none⟩ = some (.int .i64 o.n) := N5.cell 2
          have z0 : w5.cell? ⟨zb, 0, none⟩ = some (.int .i64 p) := K5.out.sz.cell 0
          have z1 : w5.cell? ⟨zb, 1, none⟩ = some (.int .i64 f) := K5.out.sz.cell 1
          have hwp : IntKind.u64.wrap (p : Int) = p := by rw [IntKind.wrap_u64]; omega
          have hwf' : IntKind.u64.wrap (f : Int) = f := by rw [IntKind.wrap_u64]; omega
          have hm1 := modN_eq o.i p (by omega) (by omega)
          have hm2 := modN_eq o.n f (by omega) (by omega)
          have HI : Hid (modN o.i p < p) := by have := modN_lt o.i p (by omega); exact (by omega : modN o.i p < p)
          have hi8 : (modN o.i p : Int) < 8 := by have := modN_lt o.i p (by omega); omega
          go_upto_region 14 with fail
          rw [hm1]
          have HM2 := Lib.hid hm2
          clear hm1 hm2
          generalize modN o.i p = i at *
          by_cases hk : o.kind = 3
          · have hk3 : (o.kind == 3) = true := by simp [hk]
            clear hk
            have EV := Lib.hid (K5.out.evict ((modN o.n f : Nat) : Int) (by have := HT.out; have := HL.out; omega))
            clear z0
            go_wp2_with fail
            rw [HM2.out]
            refine EV.out.mono ?_
            rintro e w6 ⟨⟨er, rfl⟩, F6, Y6, hk6, ht6, hs6⟩
            have KA := Lib.hid hk6
            have T6 : Hid (Y6.t ≤ 1 + (j + 1)) := by show _ ≤ _; have := HT.out; omega
            clear ht6 hk6 hs6 EV K5 d0 d1 d2 z1 N5

            have z0 : w6.cell? ⟨zb, 0, none⟩ = some (.int .i64 p) := KA.out.sz.cell 0
            go_wp2_with fail
            go_loopw [146] (fun vk wk => ∃ k : Nat, vk = .int .i64 k ∧ k ≤ p ∧ K8 w1 p f g zb wb A wk F6 Y6 q q) (fun vk _ => p - (intOf vk).toNat)
            case atStart => exact ⟨0, rfl, Nat.zero_le _, KA.out⟩
            case round =>
              obtain ⟨k, rfl, hkp, hkk⟩ := hrel
              have KK := Lib.hid hkk
              clear hkk KA z0
              by_cases hltk : k < p
              · have hkI : (k : Int) < p := by omega
                have RD := Lib.hid (KK.out.read hltk (by have := T6.out; have := HL.out; omega))
                have SO := Lib.hid (KK.out.safe_or hltk)
                clear hltk
                go_wp2_with fail
                refine RD.out.mono ?_
                rintro e w8 ⟨rfl, hb8⟩
                have K9 := Lib.hid (KK.out.more (hb8.alloc hb8.size (.cells #[.int .i64 (Y6.P k).1, .string (Y6.P k).2] 45)))
                have Y9 := Blk.new w8 45 #[.int .i64 (Y6.P k).1, .string (Y6.P k).2]
                clear hb8 RD KK
                go_upto_region 35 with fail
                change Code.wp _ _ _ _ (w8.alloc (.cells #[.int .i64 (Y6.P k).1, .string (Y6.P k).2] 45))
                generalize w8.alloc (.cells #[.int .i64 (Y6.P k).1, .string (Y6.P k).2] 45) = w9 at *
                generalize w8.heap.size = yb at *
                have e0 : w9.cell? ⟨yb, 0, none⟩ = some (.int .i64 (Y6.P k).1) := Y9.cell 0
                have SF := Lib.hid (fun h0 h1 h2 => K9.out.safe (a := (Y6.P k).1) h0 h1 h2)
                clear Y9
                rcases SO.out with hs | ⟨hs, hs1, hs2⟩
                · rw [hs] at e0
                  clear hs SO SF
                  go_wp2_with fail
                  go_roundw
                  case rel => exact ⟨k + 1, by go_num, by omega, K9.out⟩
                  case measure => simp [intOf]; omega
                · have SF2 := Lib.hid (SF.out hs hs1 hs2)
                  clear SO SF hs1 hs2
                  generalize (Y6.P k).1 = pa at *
                  go_wp2_with fail
                  refine SF2.out.mono ?_
                  rintro e w10 ⟨rfl, rfl⟩
                  go_wp2
                  go_roundw
                  case rel => exact ⟨k + 1, by go_num, by omega, K9.out⟩
                  case measure => simp [intOf]; omega
              · obtain rfl : k = p := by omega
                go_wp2
                go_roundw
                case rel => exact ⟨j + 1, F6, Y6, q, by go_num, by omega, T6.out, KK.out⟩
                case measure => simp [intOf]; omega
          · have hk3 : (o.kind == 3) = false := by simp [hk]
            clear hk
            by_cases h5 : o.kind = 5
            · have hk5 : (o.kind == 5) = true := by simp [h5]
              clear h5
              have d7 : w5.cell? ⟨x, 7, none⟩ = some (.int .i64 o.r.page) := N5.cell 7
              have fz7 : ∀ c, w5.frozen? ⟨x, c, none⟩ = false := fun c => N5.frozen c
              have KS := Lib.hid (K5.out.set HXF.out HXN.out HXW.out 7 (.int .i64 i))
              have hex : ∃ u : Op8, Fit u.r ∧ Lists w1 u.r (.slice ta u.r.txns.length tc) (.slice pa u.r.pages.length pc) ∧ Blk (w5.setCell ⟨x, 7, none⟩ (.int .i64 i)) x 51 (op8Cells u (.slice ta u.r.txns.length tc) (.slice pa u.r.pages.length pc)) :=
                ⟨{ o with r := { o.r with page := (i : Int) } }, ⟨HFO.out.1, HFO.out.2, HFO.out.3, HFO.out.4⟩, ⟨HLS.out.t, HLS.out.p⟩, N5.set 7 (.int .i64 i)⟩
              obtain ⟨u, hfu, hlu, NS⟩ := hex
              have HFU := Lib.hid hfu
              have HLU := Lib.hid hlu
              clear hfu hlu HFO HLS
              go_upto_region 23 with fail
              change Code.wp _ _ _ _ (w5.setCell ⟨x, 7, none⟩ (.int .i64 i))
              clear d0 d1 d2 d7 fz7 z0 z1 K5 N5
              generalize w5.setCell ⟨x, 7, none⟩ (.int .i64 i) = w5s at *
              have e5 : w5s.cell? ⟨x, 5, none⟩ = some (.int .i64 u.r.kind) := NS.cell 5
              have e6 : w5s.cell? ⟨x, 6, none⟩ = some (.int .i64 u.r.txn) := NS.cell 6
              have e7 : w5s.cell? ⟨x, 7, none⟩ = some (.int .i64 u.r.page) := NS.cell 7
              have e8 : w5s.cell? ⟨x, 8, none⟩ = some (.int .i64 u.r.off) := NS.cell 8
              have e9 : w5s.cell? ⟨x, 9, none⟩ = some (.int .i64 u.r.prev) := NS.cell 9
              have e10 : w5s.cell? ⟨x, 10, none⟩ = some (.int .i64 u.r.next) := NS.cell 10
              have e11 : w5s.cell? ⟨x, 11, none⟩ = some (.int .i64 u.r.beg) := NS.cell 11
              have e12 : w5s.cell? ⟨x, 12, none⟩ = some (.string u.r.before) := NS.cell 12
              have e13 : w5s.cell? ⟨x, 13, none⟩ = some (.string u.r.after) := NS.cell 13
              have e14 : w5s.cell? ⟨x, 14, none⟩ = some (.slice ta u.r.txns.length tc) := NS.cell 14
              have e15 : w5s.cell? ⟨x, 15, none⟩ = some (.slice pa u.r.pages.length pc) := NS.cell 15
              have IR : IsRec w5s (.agg (recCells u.r (.slice ta u.r.txns.length tc) (.slice pa u.r.pages.length pc))) u.r := ⟨_, _, rfl, HLU.out.keep KS.out.live.below⟩
              have AP := Lib.hid (KS.out.append IR HFU.out)
              clear IR
              go_wp2_with fail
              refine AP.out.mono ?_
              rintro e w5a ⟨at_, er, rfl, Fa, Ya, hka, hta, hat, hsa⟩
              have KB := Lib.hid hka
              have TA : Hid (Ya.t ≤ 1 + j) := by show _ ≤ _; rw [hta]; exact HT.out
              have HXA0 : Hid (¬ Fa x) := fun e => (hsa.foot x e).elim HXF.out fun e => by have := NS.lt; omega
              have NB : Blk w5a x 51 (op8Cells u (.slice ta u.r.txns.length tc) (.slice pa u.r.pages.length pc)) := (hsa.block x NS.lt HXF.out).trans NS
              clear e5 e6 e7 e8 e9 e10 e11 e12 e13 e14 e15 hka hta hsa AP NS KS HXF
              by_cases he : er = 0
              · subst he
                have HAT := Lib.hid (hat rfl)
                have GT := Lib.hid (KB.out.get HI.out (by have := TA.out; have := HL.out; omega))
                clear hat
                go_wp2_with fail
                refine GT.out.mono ?_
                rintro e w6 ⟨rfl, F6, Y6, hk6, ht6, ⟨ki, hki⟩, hge6, hs6⟩
                have T6 : Hid (Y6.t ≤ 1 + (j + 1)) := by show _ ≤ _; have := TA.out; omega
                have HKI := Lib.hid hki
                have HA6 : Hid ((at_ : Int).toNat / 128 < Y6.lg.end_) := by show _ < _; rw [hge6]; exact HAT.out
                have N6 : Blk w6 x 51 (op8Cells u (.slice ta u.r.txns.length tc) (.slice pa u.r.pages.length pc)) := (hs6.block x NB.lt HXA0.out).trans NB
                clear ht6 GT KB NB HXA0 hki hge6 HAT
                have K7 := Lib.hid (hk6.more ((Below.refl _ _).alloc (Nat.le_refl _) (.cells #[.int .i64 (q i).1, .string (q i).2] 45)))
                have Y7 := Blk.new w6 45 #[.int .i64 (q i).1, .string (q i).2]
                have HYB0 : Hid (w6.heap.size ≠ wb) := by have := hk6.wt.lt; show _ ≠ _; omega
                have N7 : Blk (w6.alloc (.cells #[.int .i64 (q i).1, .string (q i).2] 45)) x 51 (op8Cells u (.slice ta u.r.txns.length tc) (.slice pa u.r.pages.length pc)) := Blk.alloc N6 _
                clear N6
                clear hk6 hs6
                go_upto_region 26 with fail
                change Code.wp _ _ _ _ (w6.alloc (.cells #[.int .i64 (q i).1, .string (q i).2] 45))
                generalize w6.alloc (.cells #[.int .i64 (q i).1, .string (q i).2] 45) = w7 at *
                have HYB : Hid (w6.heap.size ≠ wb) := HYB0.out
                generalize w6.heap.size = yb at *
                have C : Hid (∀ V, Below w7.heap.size w7 V → V.cell? ⟨wb, i * 2, none⟩ = some (.int .i64 (q i).1) ∧ V.cell? ⟨wb, i * 2 + 1, none⟩ = some (.string (q i).2) ∧ Blk V yb 45 #[.int .i64 (q i).1, .string (q i).2]) := fun V hV =>
                  have k := Blk.cellW (K7.out.more hV).wt (i := i) (by have := HI.out; have := HP8.out; omega)
                  ⟨k.1, k.2, Y7.keep hV Y7.lt⟩
                have hi0 : (0 : Int) ≤ (i : Int) := by omega
                refine' wp_region_conf 9 (.is _ :: .is _ :: .is _ :: .is _ :: .is _ :: .is _ :: .is _ :: .is _ :: .is _ :: []) (by kernel_rfl) (by kernel_rfl) (by kernel_rfl) (by kernel_rfl) rfl ?main
                case main =>
                  iterate 9
                    apply obs_step
                    · rfl
                    · intro w8 hE8 hk8
                      have hb8 := (Below.refl w7.heap.size w7).drew.trans hE8
                      obtain ⟨c0, c1, y8⟩ := C.out w8 hb8
                      clear hk8 hE8
                      go_wp2_with (first
                        | (refine wpList_load_row rfl 45 _ rfl yb rfl 45 _ (0, 0) _ y8 Tryz.underlying45 rfl (by kernel_rfl) ?_)

                        | (refine wp_page_neq_same _ _ _ rfl rfl (q i).1 (q i).2 rfl rfl ?_))
                      refine post_eq ?_ (Below.refl _ _)
                      simp only [Act.put, List.setIfInBounds_toArray, List.set_cons_zero, List.set_cons_succ]
                      try rfl
                    · simp only [Act.put, List.setIfInBounds_toArray, List.set_cons_zero, List.set_cons_succ]
                      rfl
                  refine obs_end fun w10 hE10 _ => ?_
                  have hb10 := (Below.refl w7.heap.size w7).drew.trans hE10
                  have KA := Lib.hid (K7.out.more hb10)
                  have YA := Lib.hid (Y7.keep hb10 Y7.lt)
                  have NA := Lib.hid (N7.keep hb10 N7.lt)
                  clear N7
                  clear hE10 hb10 K7 Y7 C
                  change wpList _ _ _ _ _ _
                  have IR : IsRec w10 (.agg (recCells u.r (.slice ta u.r.txns.length tc) (.slice pa u.r.pages.length pc))) u.r := ⟨_, _, rfl, HLU.out.keep KA.out.live.below⟩
                  have AY := Lib.hid (pgRefApply_any (q i).1 (at_ : Int) (q i).2 IR)
                  have y10 := YA.out
                  have HXR : Hid (Pag.Right (applyR (q i).1 (q i).2 (at_ : Int) u.r)) := applyR_right (KA.out.right i)
                  have HXA : Hid ((applyR (q i).1 (q i).2 (at_ : Int) u.r).1 = (at_ : Int) ∨ applyR (q i).1 (q i).2 (at_ : Int) u.r = q i) := applyR_at _ _ _ _
                  have e5 : w10.cell? ⟨x, 5, none⟩ = some (.int .i64 u.r.kind) := NA.out.cell 5
                  have e6 : w10.cell? ⟨x, 6, none⟩ = some (.int .i64 u.r.txn) := NA.out.cell 6
                  have e7 : w10.cell? ⟨x, 7, none⟩ = some (.int .i64 u.r.page) := NA.out.cell 7
                  have e8 : w10.cell? ⟨x, 8, none⟩ = some (.int .i64 u.r.off) := NA.out.cell 8
                  have e9 : w10.cell? ⟨x, 9, none⟩ = some (.int .i64 u.r.prev) := NA.out.cell 9
                  have e10 : w10.cell? ⟨x, 10, none⟩ = some (.int .i64 u.r.next) := NA.out.cell 10
                  have e11 : w10.cell? ⟨x, 11, none⟩ = some (.int .i64 u.r.beg) := NA.out.cell 11
                  have e12 : w10.cell? ⟨x, 12, none⟩ = some (.string u.r.before) := NA.out.cell 12
                  have e13 : w10.cell? ⟨x, 13, none⟩ = some (.string u.r.after) := NA.out.cell 13
                  have e14 : w10.cell? ⟨x, 14, none⟩ = some (.slice ta u.r.txns.length tc) := NA.out.cell 14
                  have e15 : w10.cell? ⟨x, 15, none⟩ = some (.slice pa u.r.pages.length pc) := NA.out.cell 15
                  clear IR
                  generalize applyR (q i).1 (q i).2 (at_ : Int) u.r = x' at *
                  go_wp2_with (refine wpList_load_row rfl 45 _ rfl yb rfl 45 _ (0, 0) _ y10 Tryz.underlying45 rfl (by kernel_rfl) ?_)
                  refine AY.out.mono ?_
                  rintro e w11 ⟨rfl, hb11⟩
                  have hi88 : i < 8 := by have := HI.out; have := HP8.out; omega
                  have W11 := (KA.out.more hb11).wt
                  have c0 := (Blk.cellW W11 hi88).1
                  have c1 := (Blk.cellW W11 hi88).2
                  have fz : ∀ c, w11.frozen? ⟨wb, c, none⟩ = false := fun c => W11.frozen c
                  have K12 := Lib.hid ((KA.out.more hb11).lay hi88 HXR.out)
                  have HYW : Hid (yb ≠ wb) := HYB.out
                  have Y12 : Hid (Blk (putW w11 wb i x') yb 45 #[.int .i64 (q i).1, .string (q i).2]) := (putW_other w11 wb i x' HYW.out).trans (y10.keep hb11 y10.lt)
                  clear e5 e6 e7 e8 e9 e10 e11 e12 e13 e14 e15 W11 hb11 y10 YA NA AY KA HYW hi88
                  go_upto_region 29 with fail
                  change Code.wp _ _ _ _ (putW w11 wb i x')
                  clear c0 c1 fz
                  generalize putW w11 wb i x' = w12 at *
                  by_cases hne : x' = q i
                  · subst hne
                    have KQ : Hid (K8 w1 p f g zb wb A w12 F6 Y6 q q) := by
                      have k := K12.out
                      rw [putP_id] at k
                      exact k

                    have C2 : Hid (∀ V, Below w12.heap.size w12 V → V.cell? ⟨wb, i * 2, none⟩ = some (.int .i64 (q i).1) ∧ V.cell? ⟨wb, i * 2 + 1, none⟩ = some (.string (q i).2) ∧ Blk V yb 45 #[.int .i64 (q i).1, .string (q i).2]) := fun V hV =>
                      have k := Blk.cellW (K12.out.more hV).wt (i := i) (by have := HI.out; have := HP8.out; omega)
                      ⟨by rw [k.1, putP_same], by rw [k.2, putP_same], Y12.out.keep hV Y12.out.lt⟩

                    clear K12 HKI HXA HXR HYB0 HYB HA6
                    refine' wp_region_conf 14 (.is _ :: .is _ :: .is _ :: .is _ :: .is _ :: .is _ :: .is undef :: .is undef :: .is undef :: .is undef :: .is undef :: .is undef :: .is undef :: .is _ :: []) (by kernel_rfl) (by kernel_rfl) (by kernel_rfl) (by kernel_rfl) rfl ?main
                    case main =>
                      iterate 6
                        apply obs_step
                        · rfl
                        · intro w8 hE8 hk8
                          have hb8 := (Below.refl w12.heap.size w12).drew.trans hE8
                          obtain ⟨c0, c1, y8⟩ := C2.out w8 hb8
                          clear hk8 hE8
                          go_wp2_with (first
                            | (refine wpList_load_row rfl 45 _ rfl yb rfl 45 _ (0, 0) _ y8 Tryz.underlying45 rfl (by kernel_rfl) ?_)

                            | (refine wp_page_neq_same _ _ _ rfl rfl (q i).1 (q i).2 rfl rfl ?_))
                          refine post_eq ?_ (Below.refl _ _)
                          simp only [Act.put, List.setIfInBounds_toArray, List.set_cons_zero, List.set_cons_succ]
                          try rfl
                        · simp only [Act.put, List.setIfInBounds_toArray, List.set_cons_zero, List.set_cons_succ]
                          rfl
                      iterate 7
                        apply obs_skip
                        · rfl
                        · simp only [Act.put, List.setIfInBounds_toArray, List.set_cons_zero, List.set_cons_succ]
                          rfl
                      apply obs_step
                      · rfl
                      · intro w8 hE8 hk8
                        have hb8 := (Below.refl w12.heap.size w12).drew.trans hE8
                        obtain ⟨c0, c1, y8⟩ := C2.out w8 hb8
                        clear hk8 hE8
                        go_wp2_with (first
                          | (refine wpList_load_row rfl 45 _ rfl yb rfl 45 _ (0, 0) _ y8 Tryz.underlying45 rfl (by kernel_rfl) ?_)

                          | (refine wp_page_neq_same _ _ _ rfl rfl (q i).1 (q i).2 rfl rfl ?_))
                        refine post_eq ?_ (Below.refl _ _)
                        simp only [Act.put, List.setIfInBounds_toArray, List.set_cons_zero, List.set_cons_succ]
                        try rfl
                      · simp only [Act.put, List.setIfInBounds_toArray, List.set_cons_zero, List.set_cons_succ]
                        rfl
                      refine obs_end fun w10 hE10 _ => ?_
                      have KA := Lib.hid (KQ.out.more ((Below.refl w12.heap.size w12).drew.trans hE10))
                      clear hE10 KQ Y12 C2
                      change wpList _ _ _ _ _ _
                      have z0 : w10.cell? ⟨zb, 0, none⟩ = some (.int .i64 p) := KA.out.sz.cell 0
                      go_wp2_with fail
                      go_loopw [146] (fun vk wk => ∃ k : Nat, vk = .int .i64 k ∧ k ≤ p ∧ K8 w1 p f g zb wb A wk F6 Y6 q q) (fun vk _ => p - (intOf vk).toNat)
                      case atStart => exact ⟨0, rfl, Nat.zero_le _, KA.out⟩
                      case round =>
                        obtain ⟨k, rfl, hkp, hkk⟩ := hrel
                        have KK := Lib.hid hkk
                        clear hkk KA z0
                        by_cases hltk : k < p
                        · have hkI : (k : Int) < p := by omega
                          have RD := Lib.hid (KK.out.read hltk (by have := T6.out; have := HL.out; omega))
                          have SO := Lib.hid (KK.out.safe_or hltk)
                          clear hltk
                          go_wp2_with fail
                          refine RD.out.mono ?_
                          rintro e w8 ⟨rfl, hb8⟩
                          have K9 := Lib.hid (KK.out.more (hb8.alloc hb8.size (.cells #[.int .i64 (Y6.P k).1, .string (Y6.P k).2] 45)))
                          have Y9 := Blk.new w8 45 #[.int .i64 (Y6.P k).1, .string (Y6.P k).2]
                          clear hb8 RD KK
                          go_upto_region 35 with fail
                          change Code.wp _ _ _ _ (w8.alloc (.cells #[.int .i64 (Y6.P k).1, .string (Y6.P k).2] 45))
                          generalize w8.alloc (.cells #[.int .i64 (Y6.P k).1, .string (Y6.P k).2] 45) = w9 at *
                          generalize w8.heap.size = yb at *
                          have e0 : w9.cell? ⟨yb, 0, none⟩ = some (.int .i64 (Y6.P k).1) := Y9.cell 0
                          have SF := Lib.hid (fun h0 h1 h2 => K9.out.safe (a := (Y6.P k).1) h0 h1 h2)
                          clear Y9
                          rcases SO.out with hs | ⟨hs, hs1, hs2⟩
                          · rw [hs] at e0
                            clear hs SO SF
                            go_wp2_with fail
                            go_roundw
                            case rel => exact ⟨k + 1, by go_num, by omega, K9.out⟩
                            case measure => simp [intOf]; omega
                          · have SF2 := Lib.hid (SF.out hs hs1 hs2)
                            clear SO SF hs1 hs2
                            generalize (Y6.P k).1 = pa at *
                            go_wp2_with fail
                            refine SF2.out.mono ?_
                            rintro e w10 ⟨rfl, rfl⟩
                            go_wp2
                            go_roundw
                            case rel => exact ⟨k + 1, by go_num, by omega, K9.out⟩
                            case measure => simp [intOf]; omega
                        · obtain rfl : k = p := by omega
                          go_wp2
                          go_roundw
                          case rel => exact ⟨j + 1, F6, Y6, q, by go_num, by omega, T6.out, KK.out⟩
                          case measure => simp [intOf]; omega
                  · have hx1 : x'.1 = (at_ : Int) := HXA.out.elim id fun e => absurd e hne
                    have PU : Hid (∀ W, Below w12.heap.size w12 W → _) := fun W hW => (K12.out.more hW).put HKI.out HXR.out (by rw [hx1]; exact HA6.out)

                    have C2 : Hid (∀ V, Below w12.heap.size w12 V → V.cell? ⟨wb, i * 2, none⟩ = some (.int .i64 x'.1) ∧ V.cell? ⟨wb, i * 2 + 1, none⟩ = some (.string x'.2) ∧ Blk V yb 45 #[.int .i64 (q i).1, .string (q i).2]) := fun V hV =>
                      have k := Blk.cellW (K12.out.more hV).wt (i := i) (by have := HI.out; have := HP8.out; omega)
                      ⟨by rw [k.1, putP_same], by rw [k.2, putP_same], Y12.out.keep hV Y12.out.lt⟩

                    have hne' : ((x'.1, x'.2) : Pag) ≠ ((q i).1, (q i).2) := hne
                    have HNE := Lib.hid hne'
                    clear HKI hx1 hne hne' HXA HXR HYB0 HYB HA6
                    refine' wp_region_conf 11 (.is _ :: .is _ :: .is _ :: .is _ :: .is _ :: .is _ :: .is _ :: .is _ :: .is _ :: .is _ :: .is _ :: []) (by kernel_rfl) (by kernel_rfl) (by kernel_rfl) (by kernel_rfl) rfl ?main
                    case main =>
                      iterate 11
                        apply obs_step
                        · rfl
                        · intro w8 hE8 hk8
                          have hb8 := (Below.refl w12.heap.size w12).drew.trans hE8
                          obtain ⟨c0, c1, y8⟩ := C2.out w8 hb8
                          clear hk8 hE8
                          go_wp2_with (first
                            | (refine wpList_load_row rfl 45 _ rfl yb rfl 45 _ (0, 0) _ y8 Tryz.underlying45 rfl (by kernel_rfl) ?_)

                            | (refine wp_page_neq_other _ _ _ rfl rfl x'.1 (q i).1 x'.2 (q i).2 HNE.out rfl rfl ?_))
                          refine post_eq ?_ (Below.refl _ _)
                          simp only [Act.put, List.setIfInBounds_toArray, List.set_cons_zero, List.set_cons_succ]
                          try rfl
                        · simp only [Act.put, List.setIfInBounds_toArray, List.set_cons_zero, List.set_cons_succ]
                          rfl
                      refine obs_end fun w13 hE13 _ => ?_
                      have hb13 := (Below.refl w12.heap.size w12).drew.trans hE13
                      have PV := Lib.hid (PU.out w13 hb13)
                      clear hE13 hb13 K12 Y12 C2 PU
                      change wpList _ _ _ _ _ _
                      go_wp2_with fail
                      refine PV.out.mono ?_
                      rintro e w14 ⟨rfl, Fq, Yq, hk9, ht9, _⟩
                      have KA := Lib.hid hk9
                      have T9 : Hid (Yq.t ≤ 1 + (j + 1)) := by show _ ≤ _; rw [ht9]; exact T6.out
                      clear hk9 ht9 PV
                      have z0 : w14.cell? ⟨zb, 0, none⟩ = some (.int .i64 p) := KA.out.sz.cell 0
                      go_wp2_with fail
                      go_loopw [146] (fun vk wk => ∃ k : Nat, vk = .int .i64 k ∧ k ≤ p ∧ K8 w1 p f g zb wb A wk Fq Yq (putP q i x') (putP q i x')) (fun vk _ => p - (intOf vk).toNat)
                      case atStart => exact ⟨0, rfl, Nat.zero_le _, KA.out⟩
                      case round =>
                        obtain ⟨k, rfl, hkp, hkk⟩ := hrel
                        have KK := Lib.hid hkk
                        clear hkk KA z0
                        by_cases hltk : k < p
                        · have hkI : (k : Int) < p := by omega
                          have RD := Lib.hid (KK.out.read hltk (by have := T9.out; have := HL.out; omega))
                          have SO := Lib.hid (KK.out.safe_or hltk)
                          clear hltk
                          go_wp2_with fail
                          refine RD.out.mono ?_
                          rintro e w8 ⟨rfl, hb8⟩
                          have K9 := Lib.hid (KK.out.more (hb8.alloc hb8.size (.cells #[.int .i64 (Yq.P k).1, .string (Yq.P k).2] 45)))
                          have Y9 := Blk.new w8 45 #[.int .i64 (Yq.P k).1, .string (Yq.P k).2]
                          clear hb8 RD KK
                          go_upto_region 35 with fail
                          change Code.wp _ _ _ _ (w8.alloc (.cells #[.int .i64 (Yq.P k).1, .string (Yq.P k).2] 45))
                          generalize w8.alloc (.cells #[.int .i64 (Yq.P k).1, .string (Yq.P k).2] 45) = w9 at *
                          generalize w8.heap.size = yb at *
                          have e0 : w9.cell? ⟨yb, 0, none⟩ = some (.int .i64 (Yq.P k).1) := Y9.cell 0
                          have SF := Lib.hid (fun h0 h1 h2 => K9.out.safe (a := (Yq.P k).1) h0 h1 h2)
                          clear Y9
                          rcases SO.out with hs | ⟨hs, hs1, hs2⟩
                          · rw [hs] at e0
                            clear hs SO SF
                            go_wp2_with fail
                            go_roundw
                            case rel => exact ⟨k + 1, by go_num, by omega, K9.out⟩
                            case measure => simp [intOf]; omega
                          · have SF2 := Lib.hid (SF.out hs hs1 hs2)
                            clear SO SF hs1 hs2
                            generalize (Yq.P k).1 = pa at *
                            go_wp2_with fail
                            refine SF2.out.mono ?_
                            rintro e w10 ⟨rfl, rfl⟩
                            go_wp2
                            go_roundw
                            case rel => exact ⟨k + 1, by go_num, by omega, K9.out⟩
                            case measure => simp [intOf]; omega
                        · obtain rfl : k = p := by omega
                          go_wp2
                          go_roundw
                          case rel => exact ⟨j + 1, Fq, Yq, (putP q i x'), by go_num, by omega, T9.out, KK.out⟩
                          case measure => simp [intOf]; omega
              · have he2 : ¬ ((er : Int) = 0) := by omega
                have KC := Lib.hid KB.out
                clear hat HXA0 NB KB
                go_wp2
                go_roundw
                case rel => exact ⟨j + 1, Fa, Ya, q, by go_num, by omega, by have := TA.out; omega, KC.out⟩
                case measure => simp [intOf]; omega
            · have hk5 : (o.kind == 5) = false := by simp [h5]
              clear h5
              by_cases h2 : o.kind = 2
              · have hk2 : (o.kind == 2) = true := by simp [h2]
                clear h2
                have d7 : w5.cell? ⟨x, 7, none⟩ = some (.int .i64 o.r.page) := N5.cell 7
                have fz7 : ∀ c, w5.frozen? ⟨x, c, none⟩ = false := fun c => N5.frozen c
                have KS := Lib.hid (K5.out.set HXF.out HXN.out HXW.out 7 (.int .i64 i))
                have hex : ∃ u : Op8, Fit u.r ∧ Lists w1 u.r (.slice ta u.r.txns.length tc) (.slice pa u.r.pages.length pc) ∧ Blk (w5.setCell ⟨x, 7, none⟩ (.int .i64 i)) x 51 (op8Cells u (.slice ta u.r.txns.length tc) (.slice pa u.r.pages.length pc)) :=
                  ⟨{ o with r := { o.r with page := (i : Int) } }, ⟨HFO.out.1, HFO.out.2, HFO.out.3, HFO.out.4⟩, ⟨HLS.out.t, HLS.out.p⟩, N5.set 7 (.int .i64 i)⟩
                obtain ⟨u, hfu, hlu, NS⟩ := hex
                have HFU := Lib.hid hfu
                have HLU := Lib.hid hlu
                clear hfu hlu HFO HLS
                go_upto_region 23 with fail
                change Code.wp _ _ _ _ (w5.setCell ⟨x, 7, none⟩ (.int .i64 i))
                clear d0 d1 d2 d7 fz7 z0 z1 K5 N5
                generalize w5.setCell ⟨x, 7, none⟩ (.int .i64 i) = w5s at *
                have e5 : w5s.cell? ⟨x, 5, none⟩ = some (.int .i64 u.r.kind) := NS.cell 5
                have e6 : w5s.cell? ⟨x, 6, none⟩ = some (.int .i64 u.r.txn) := NS.cell 6
                have e7 : w5s.cell? ⟨x, 7, none⟩ = some (.int .i64 u.r.page) := NS.cell 7
                have e8 : w5s.cell? ⟨x, 8, none⟩ = some (.int .i64 u.r.off) := NS.cell 8
                have e9 : w5s.cell? ⟨x, 9, none⟩ = some (.int .i64 u.r.prev) := NS.cell 9
                have e10 : w5s.cell? ⟨x, 10, none⟩ = some (.int .i64 u.r.next) := NS.cell 10
                have e11 : w5s.cell? ⟨x, 11, none⟩ = some (.int .i64 u.r.beg) := NS.cell 11
                have e12 : w5s.cell? ⟨x, 12, none⟩ = some (.string u.r.before) := NS.cell 12
                have e13 : w5s.cell? ⟨x, 13, none⟩ = some (.string u.r.after) := NS.cell 13
                have e14 : w5s.cell? ⟨x, 14, none⟩ = some (.slice ta u.r.txns.length tc) := NS.cell 14
                have e15 : w5s.cell? ⟨x, 15, none⟩ = some (.slice pa u.r.pages.length pc) := NS.cell 15
                have IR : IsRec w5s (.agg (recCells u.r (.slice ta u.r.txns.length tc) (.slice pa u.r.pages.length pc))) u.r := ⟨_, _, rfl, HLU.out.keep KS.out.live.below⟩
                have AP := Lib.hid (KS.out.append IR HFU.out)
                clear IR
                go_wp2_with fail
                refine AP.out.mono ?_
                rintro e w5a ⟨at_, er, rfl, Fa, Ya, hka, hta, hat, hsa⟩
                have KB := Lib.hid hka
                have TA : Hid (Ya.t ≤ 1 + j) := by show _ ≤ _; rw [hta]; exact HT.out
                have HXA0 : Hid (¬ Fa x) := fun e => (hsa.foot x e).elim HXF.out fun e => by have := NS.lt; omega
                have NB : Blk w5a x 51 (op8Cells u (.slice ta u.r.txns.length tc) (.slice pa u.r.pages.length pc)) := (hsa.block x NS.lt HXF.out).trans NS
                clear e5 e6 e7 e8 e9 e10 e11 e12 e13 e14 e15 hka hta hsa AP NS KS HXF
                by_cases he : er = 0
                · subst he
                  have HAT := Lib.hid (hat rfl)
                  have GT := Lib.hid (KB.out.get HI.out (by have := TA.out; have := HL.out; omega))
                  clear hat
                  go_wp2_with fail
                  refine GT.out.mono ?_
                  rintro e w6 ⟨rfl, F6, Y6, hk6, ht6, ⟨ki, hki⟩, hge6, hs6⟩
                  have T6 : Hid (Y6.t ≤ 1 + (j + 1)) := by show _ ≤ _; have := TA.out; omega
                  have HKI := Lib.hid hki
                  have HA6 : Hid ((at_ : Int).toNat / 128 < Y6.lg.end_) := by show _ < _; rw [hge6]; exact HAT.out
                  have N6 : Blk w6 x 51 (op8Cells u (.slice ta u.r.txns.length tc) (.slice pa u.r.pages.length pc)) := (hs6.block x NB.lt HXA0.out).trans NB
                  clear ht6 GT KB NB HXA0 hki hge6 HAT
                  have K7 := Lib.hid (hk6.more ((Below.refl _ _).alloc (Nat.le_refl _) (.cells #[.int .i64 (q i).1, .string (q i).2] 45)))
                  have Y7 := Blk.new w6 45 #[.int .i64 (q i).1, .string (q i).2]
                  have HYB0 : Hid (w6.heap.size ≠ wb) := by have := hk6.wt.lt; show _ ≠ _; omega
                  have N7 : Blk (w6.alloc (.cells #[.int .i64 (q i).1, .string (q i).2] 45)) x 51 (op8Cells u (.slice ta u.r.txns.length tc) (.slice pa u.r.pages.length pc)) := Blk.alloc N6 _
                  clear N6
                  clear hk6 hs6
                  go_upto_region 26 with fail
                  change Code.wp _ _ _ _ (w6.alloc (.cells #[.int .i64 (q i).1, .string (q i).2] 45))
                  generalize w6.alloc (.cells #[.int .i64 (q i).1, .string (q i).2] 45) = w7 at *
                  have HYB : Hid (w6.heap.size ≠ wb) := HYB0.out
                  generalize w6.heap.size = yb at *
                  have C : Hid (∀ V, Below w7.heap.size w7 V → V.cell? ⟨wb, i * 2, none⟩ = some (.int .i64 (q i).1) ∧ V.cell? ⟨wb, i * 2 + 1, none⟩ = some (.string (q i).2) ∧ Blk V yb 45 #[.int .i64 (q i).1, .string (q i).2]) := fun V hV =>
                    have k := Blk.cellW (K7.out.more hV).wt (i := i) (by have := HI.out; have := HP8.out; omega)
                    ⟨k.1, k.2, Y7.keep hV Y7.lt⟩
                  have hi0 : (0 : Int) ≤ (i : Int) := by omega
                  refine' wp_region_conf 9 (.is _ :: .is _ :: .is _ :: .is _ :: .is _ :: .is _ :: .is _ :: .is _ :: .is _ :: []) (by kernel_rfl) (by kernel_rfl) (by kernel_rfl) (by kernel_rfl) rfl ?main
                  case main =>
                    iterate 9
                      apply obs_step
                      · rfl
                      · intro w8 hE8 hk8
                        have hb8 := (Below.refl w7.heap.size w7).drew.trans hE8
                        obtain ⟨c0, c1, y8⟩ := C.out w8 hb8
                        clear hk8 hE8
                        go_wp2_with (first
                          | (refine wpList_load_row rfl 45 _ rfl yb rfl 45 _ (0, 0) _ y8 Tryz.underlying45 rfl (by kernel_rfl) ?_)

                          | (refine wp_page_neq_same _ _ _ rfl rfl (q i).1 (q i).2 rfl rfl ?_))
                        refine post_eq ?_ (Below.refl _ _)
                        simp only [Act.put, List.setIfInBounds_toArray, List.set_cons_zero, List.set_cons_succ]
                        try rfl
                      · simp only [Act.put, List.setIfInBounds_toArray, List.set_cons_zero, List.set_cons_succ]
                        rfl
                    refine obs_end fun w10 hE10 _ => ?_
                    have hb10 := (Below.refl w7.heap.size w7).drew.trans hE10
                    have KA := Lib.hid (K7.out.more hb10)
                    have YA := Lib.hid (Y7.keep hb10 Y7.lt)
                    have NA := Lib.hid (N7.keep hb10 N7.lt)
                    clear N7
                    clear hE10 hb10 K7 Y7 C
                    change wpList _ _ _ _ _ _
                    have IR : IsRec w10 (.agg (recCells u.r (.slice ta u.r.txns.length tc) (.slice pa u.r.pages.length pc))) u.r := ⟨_, _, rfl, HLU.out.keep KA.out.live.below⟩
                    have AY := Lib.hid (pgRefApply_any (q i).1 (at_ : Int) (q i).2 IR)
                    have y10 := YA.out
                    have HXR : Hid (Pag.Right (applyR (q i).1 (q i).2 (at_ : Int) u.r)) := applyR_right (KA.out.right i)
                    have HXA : Hid ((applyR (q i).1 (q i).2 (at_ : Int) u.r).1 = (at_ : Int) ∨ applyR (q i).1 (q i).2 (at_ : Int) u.r = q i) := applyR_at _ _ _ _
                    have e5 : w10.cell? ⟨x, 5, none⟩ = some (.int .i64 u.r.kind) := NA.out.cell 5
                    have e6 : w10.cell? ⟨x, 6, none⟩ = some (.int .i64 u.r.txn) := NA.out.cell 6
                    have e7 : w10.cell? ⟨x, 7, none⟩ = some (.int .i64 u.r.page) := NA.out.cell 7
                    have e8 : w10.cell? ⟨x, 8, none⟩ = some (.int .i64 u.r.off) := NA.out.cell 8
                    have e9 : w10.cell? ⟨x, 9, none⟩ = some (.int .i64 u.r.prev) := NA.out.cell 9
                    have e10 : w10.cell? ⟨x, 10, none⟩ = some (.int .i64 u.r.next) := NA.out.cell 10
                    have e11 : w10.cell? ⟨x, 11, none⟩ = some (.int .i64 u.r.beg) := NA.out.cell 11
                    have e12 : w10.cell? ⟨x, 12, none⟩ = some (.string u.r.before) := NA.out.cell 12
                    have e13 : w10.cell? ⟨x, 13, none⟩ = some (.string u.r.after) := NA.out.cell 13
                    have e14 : w10.cell? ⟨x, 14, none⟩ = some (.slice ta u.r.txns.length tc) := NA.out.cell 14
                    have e15 : w10.cell? ⟨x, 15, none⟩ = some (.slice pa u.r.pages.length pc) := NA.out.cell 15
                    clear IR
                    generalize applyR (q i).1 (q i).2 (at_ : Int) u.r = x' at *
                    go_wp2_with (refine wpList_load_row rfl 45 _ rfl yb rfl 45 _ (0, 0) _ y10 Tryz.underlying45 rfl (by kernel_rfl) ?_)
                    refine AY.out.mono ?_
                    rintro e w11 ⟨rfl, hb11⟩
                    have hi88 : i < 8 := by have := HI.out; have := HP8.out; omega
                    have W11 := (KA.out.more hb11).wt
                    have c0 := (Blk.cellW W11 hi88).1
                    have c1 := (Blk.cellW W11 hi88).2
                    have fz : ∀ c, w11.frozen? ⟨wb, c, none⟩ = false := fun c => W11.frozen c
                    have K12 := Lib.hid ((KA.out.more hb11).lay hi88 HXR.out)
                    have HYW : Hid (yb ≠ wb) := HYB.out
                    have Y12 : Hid (Blk (putW w11 wb i x') yb 45 #[.int .i64 (q i).1, .string (q i).2]) := (putW_other w11 wb i x' HYW.out).trans (y10.keep hb11 y10.lt)
                    clear e5 e6 e7 e8 e9 e10 e11 e12 e13 e14 e15 W11 hb11 y10 YA NA AY KA HYW hi88
                    go_upto_region 29 with fail
                    change Code.wp _ _ _ _ (putW w11 wb i x')
                    clear c0 c1 fz
                    generalize putW w11 wb i x' = w12 at *
                    by_cases hne : x' = q i
                    · subst hne
                      have KQ : Hid (K8 w1 p f g zb wb A w12 F6 Y6 q q) := by
                        have k := K12.out
                        rw [putP_id] at k
                        exact k

                      have C2 : Hid (∀ V, Below w12.heap.size w12 V → V.cell? ⟨wb, i * 2, none⟩ = some (.int .i64 (q i).1) ∧ V.cell? ⟨wb, i * 2 + 1, none⟩ = some (.string (q i).2) ∧ Blk V yb 45 #[.int .i64 (q i).1, .string (q i).2]) := fun V hV =>
                        have k := Blk.cellW (K12.out.more hV).wt (i := i) (by have := HI.out; have := HP8.out; omega)
                        ⟨by rw [k.1, putP_same], by rw [k.2, putP_same], Y12.out.keep hV Y12.out.lt⟩

                      clear K12 HKI HXA HXR HYB0 HYB HA6
                      refine' wp_region_conf 14 (.is _ :: .is _ :: .is _ :: .is _ :: .is _ :: .is _ :: .is undef :: .is undef :: .is undef :: .is undef :: .is undef :: .is undef :: .is undef :: .is _ :: []) (by kernel_rfl) (by kernel_rfl) (by kernel_rfl) (by kernel_rfl) rfl ?main
                      case main =>
                        iterate 6
                          apply obs_step
                          · rfl
                          · intro w8 hE8 hk8
                            have hb8 := (Below.refl w12.heap.size w12).drew.trans hE8
                            obtain ⟨c0, c1, y8⟩ := C2.out w8 hb8
                            clear hk8 hE8
                            go_wp2_with (first
                              | (refine wpList_load_row rfl 45 _ rfl yb rfl 45 _ (0, 0) _ y8 Tryz.underlying45 rfl (by kernel_rfl) ?_)

                              | (refine wp_page_neq_same _ _ _ rfl rfl (q i).1 (q i).2 rfl rfl ?_))
                            refine post_eq ?_ (Below.refl _ _)
                            simp only [Act.put, List.setIfInBounds_toArray, List.set_cons_zero, List.set_cons_succ]
                            try rfl
                          · simp only [Act.put, List.setIfInBounds_toArray, List.set_cons_zero, List.set_cons_succ]
                            rfl
                        iterate 7
                          apply obs_skip
                          · rfl
                          · simp only [Act.put, List.setIfInBounds_toArray, List.set_cons_zero, List.set_cons_succ]
                            rfl
                        apply obs_step
                        · rfl
                        · intro w8 hE8 hk8
                          have hb8 := (Below.refl w12.heap.size w12).drew.trans hE8
                          obtain ⟨c0, c1, y8⟩ := C2.out w8 hb8
                          clear hk8 hE8
                          go_wp2_with (first
                            | (refine wpList_load_row rfl 45 _ rfl yb rfl 45 _ (0, 0) _ y8 Tryz.underlying45 rfl (by kernel_rfl) ?_)

                            | (refine wp_page_neq_same _ _ _ rfl rfl (q i).1 (q i).2 rfl rfl ?_))
                          refine post_eq ?_ (Below.refl _ _)
                          simp only [Act.put, List.setIfInBounds_toArray, List.set_cons_zero, List.set_cons_succ]
                          try rfl
                        · simp only [Act.put, List.setIfInBounds_toArray, List.set_cons_zero, List.set_cons_succ]
                          rfl
                        refine obs_end fun w10 hE10 _ => ?_
                        have KA := Lib.hid (KQ.out.more ((Below.refl w12.heap.size w12).drew.trans hE10))
                        clear hE10 KQ Y12 C2
                        change wpList _ _ _ _ _ _
                        have z0 : w10.cell? ⟨zb, 0, none⟩ = some (.int .i64 p) := KA.out.sz.cell 0
                        go_wp2_with fail
                        go_loopw [146] (fun vk wk => ∃ k : Nat, vk = .int .i64 k ∧ k ≤ p ∧ K8 w1 p f g zb wb A wk F6 Y6 q q) (fun vk _ => p - (intOf vk).toNat)
                        case atStart => exact ⟨0, rfl, Nat.zero_le _, KA.out⟩
                        case round =>
                          obtain ⟨k, rfl, hkp, hkk⟩ := hrel
                          have KK := Lib.hid hkk
                          clear hkk KA z0
                          by_cases hltk : k < p
                          · have hkI : (k : Int) < p := by omega
                            have RD := Lib.hid (KK.out.read hltk (by have := T6.out; have := HL.out; omega))
                            have SO := Lib.hid (KK.out.safe_or hltk)
                            clear hltk
                            go_wp2_with fail
                            refine RD.out.mono ?_
                            rintro e w8 ⟨rfl, hb8⟩
                            have K9 := Lib.hid (KK.out.more (hb8.alloc hb8.size (.cells #[.int .i64 (Y6.P k).1, .string (Y6.P k).2] 45)))
                            have Y9 := Blk.new w8 45 #[.int .i64 (Y6.P k).1, .string (Y6.P k).2]
                            clear hb8 RD KK
                            go_upto_region 35 with fail
                            change Code.wp _ _ _ _ (w8.alloc (.cells #[.int .i64 (Y6.P k).1, .string (Y6.P k).2] 45))
                            generalize w8.alloc (.cells #[.int .i64 (Y6.P k).1, .string (Y6.P k).2] 45) = w9 at *
                            generalize w8.heap.size = yb at *
                            have e0 : w9.cell? ⟨yb, 0, none⟩ = some (.int .i64 (Y6.P k).1) := Y9.cell 0
                            have SF := Lib.hid (fun h0 h1 h2 => K9.out.safe (a := (Y6.P k).1) h0 h1 h2)
                            clear Y9
                            rcases SO.out with hs | ⟨hs, hs1, hs2⟩
                            · rw [hs] at e0
                              clear hs SO SF
                              go_wp2_with fail
                              go_roundw
                              case rel => exact ⟨k + 1, by go_num, by omega, K9.out⟩
                              case measure => simp [intOf]; omega
                            · have SF2 := Lib.hid (SF.out hs hs1 hs2)
                              clear SO SF hs1 hs2
                              generalize (Y6.P k).1 = pa at *
                              go_wp2_with fail
                              refine SF2.out.mono ?_
                              rintro e w10 ⟨rfl, rfl⟩
                              go_wp2
                              go_roundw
                              case rel => exact ⟨k + 1, by go_num, by omega, K9.out⟩
                              case measure => simp [intOf]; omega
                          · obtain rfl : k = p := by omega
                            go_wp2
                            go_roundw
                            case rel => exact ⟨j + 1, F6, Y6, q, by go_num, by omega, T6.out, KK.out⟩
                            case measure => simp [intOf]; omega
                    · have hx1 : x'.1 = (at_ : Int) := HXA.out.elim id fun e => absurd e hne
                      have PU : Hid (∀ W, Below w12.heap.size w12 W → _) := fun W hW => (K12.out.more hW).put HKI.out HXR.out (by rw [hx1]; exact HA6.out)

                      have C2 : Hid (∀ V, Below w12.heap.size w12 V → V.cell? ⟨wb, i * 2, none⟩ = some (.int .i64 x'.1) ∧ V.cell? ⟨wb, i * 2 + 1, none⟩ = some (.string x'.2) ∧ Blk V yb 45 #[.int .i64 (q i).1, .string (q i).2]) := fun V hV =>
                        have k := Blk.cellW (K12.out.more hV).wt (i := i) (by have := HI.out; have := HP8.out; omega)
                        ⟨by rw [k.1, putP_same], by rw [k.2, putP_same], Y12.out.keep hV Y12.out.lt⟩

                      have hne' : ((x'.1, x'.2) : Pag) ≠ ((q i).1, (q i).2) := hne
                      have HNE := Lib.hid hne'
                      clear HKI hx1 hne hne' HXA HXR HYB0 HYB HA6
                      refine' wp_region_conf 11 (.is _ :: .is _ :: .is _ :: .is _ :: .is _ :: .is _ :: .is _ :: .is _ :: .is _ :: .is _ :: .is _ :: []) (by kernel_rfl) (by kernel_rfl) (by kernel_rfl) (by kernel_rfl) rfl ?main
                      case main =>
                        iterate 11
                          apply obs_step
                          · rfl
                          · intro w8 hE8 hk8
                            have hb8 := (Below.refl w12.heap.size w12).drew.trans hE8
                            obtain ⟨c0, c1, y8⟩ := C2.out w8 hb8
                            clear hk8 hE8
                            go_wp2_with (first
                              | (refine wpList_load_row rfl 45 _ rfl yb rfl 45 _ (0, 0) _ y8 Tryz.underlying45 rfl (by kernel_rfl) ?_)

                              | (refine wp_page_neq_other _ _ _ rfl rfl x'.1 (q i).1 x'.2 (q i).2 HNE.out rfl rfl ?_))
                            refine post_eq ?_ (Below.refl _ _)
                            simp only [Act.put, List.setIfInBounds_toArray, List.set_cons_zero, List.set_cons_succ]
                            try rfl
                          · simp only [Act.put, List.setIfInBounds_toArray, List.set_cons_zero, List.set_cons_succ]
                            rfl
                        refine obs_end fun w13 hE13 _ => ?_
                        have hb13 := (Below.refl w12.heap.size w12).drew.trans hE13
                        have PV := Lib.hid (PU.out w13 hb13)
                        clear hE13 hb13 K12 Y12 C2 PU
                        change wpList _ _ _ _ _ _
                        go_wp2_with fail
                        refine PV.out.mono ?_
                        rintro e w14 ⟨rfl, Fq, Yq, hk9, ht9, _⟩
                        have KA := Lib.hid hk9
                        have T9 : Hid (Yq.t ≤ 1 + (j + 1)) := by show _ ≤ _; rw [ht9]; exact T6.out
                        clear hk9 ht9 PV
                        have z0 : w14.cell? ⟨zb, 0, none⟩ = some (.int .i64 p) := KA.out.sz.cell 0
                        go_wp2_with fail
                        go_loopw [146] (fun vk wk => ∃ k : Nat, vk = .int .i64 k ∧ k ≤ p ∧ K8 w1 p f g zb wb A wk Fq Yq (putP q i x') (putP q i x')) (fun vk _ => p - (intOf vk).toNat)
                        case atStart => exact ⟨0, rfl, Nat.zero_le _, KA.out⟩
                        case round =>
                          obtain ⟨k, rfl, hkp, hkk⟩ := hrel
                          have KK := Lib.hid hkk
                          clear hkk KA z0
                          by_cases hltk : k < p
                          · have hkI : (k : Int) < p := by omega
                            have RD := Lib.hid (KK.out.read hltk (by have := T9.out; have := HL.out; omega))
                            have SO := Lib.hid (KK.out.safe_or hltk)
                            clear hltk
                            go_wp2_with fail
                            refine RD.out.mono ?_
                            rintro e w8 ⟨rfl, hb8⟩
                            have K9 := Lib.hid (KK.out.more (hb8.alloc hb8.size (.cells #[.int .i64 (Yq.P k).1, .string (Yq.P k).2] 45)))
                            have Y9 := Blk.new w8 45 #[.int .i64 (Yq.P k).1, .string (Yq.P k).2]
                            clear hb8 RD KK
                            go_upto_region 35 with fail
                            change Code.wp _ _ _ _ (w8.alloc (.cells #[.int .i64 (Yq.P k).1, .string (Yq.P k).2] 45))
                            generalize w8.alloc (.cells #[.int .i64 (Yq.P k).1, .string (Yq.P k).2] 45) = w9 at *
                            generalize w8.heap.size = yb at *
                            have e0 : w9.cell? ⟨yb, 0, none⟩ = some (.int .i64 (Yq.P k).1) := Y9.cell 0
                            have SF := Lib.hid (fun h0 h1 h2 => K9.out.safe (a := (Yq.P k).1) h0 h1 h2)
                            clear Y9
                            rcases SO.out with hs | ⟨hs, hs1, hs2⟩
                            · rw [hs] at e0
                              clear hs SO SF
                              go_wp2_with fail
                              go_roundw
                              case rel => exact ⟨k + 1, by go_num, by omega, K9.out⟩
                              case measure => simp [intOf]; omega
                            · have SF2 := Lib.hid (SF.out hs hs1 hs2)
                              clear SO SF hs1 hs2
                              generalize (Yq.P k).1 = pa at *
                              go_wp2_with fail
                              refine SF2.out.mono ?_
                              rintro e w10 ⟨rfl, rfl⟩
                              go_wp2
                              go_roundw
                              case rel => exact ⟨k + 1, by go_num, by omega, K9.out⟩
                              case measure => simp [intOf]; omega
                          · obtain rfl : k = p := by omega
                            go_wp2
                            go_roundw
                            case rel => exact ⟨j + 1, Fq, Yq, (putP q i x'), by go_num, by omega, T9.out, KK.out⟩
                            case measure => simp [intOf]; omega
                · have he2 : ¬ ((er : Int) = 0) := by omega
                  have KC := Lib.hid KB.out
                  clear hat HXA0 NB KB
                  go_wp2
                  go_roundw
                  case rel => exact ⟨j + 1, Fa, Ya, q, by go_num, by omega, by have := TA.out; omega, KC.out⟩
                  case measure => simp [intOf]; omega
              · have hk2 : (o.kind == 2) = false := by simp [h2]
                clear h2
                have GT := Lib.hid (K5.out.get HI.out (by have := HT.out; have := HL.out; omega))
                clear d1 d2 z0 z1 N5
                go_wp2_with fail
                refine GT.out.mono ?_
                rintro e w6 ⟨rfl, F6, Y6, hk6, ht6, _, _, hs6⟩
                have T6 : Hid (Y6.t ≤ 1 + (j + 1)) := by show _ ≤ _; have := HT.out; omega
                clear ht6 GT K5 d0

                have K7 := Lib.hid (hk6.more ((Below.refl _ _).alloc (Nat.le_refl _) (.cells #[.int .i64 (q i).1, .string (q i).2] 45)))
                have Y7 := Blk.new w6 45 #[.int .i64 (q i).1, .string (q i).2]
                have HYB0 : Hid (w6.heap.size ≠ wb) := by have := hk6.wt.lt; show _ ≠ _; omega
                clear hk6 hs6
                go_upto_region 16 with fail
                change Code.wp _ _ _ _ (w6.alloc (.cells #[.int .i64 (q i).1, .string (q i).2] 45))
                generalize w6.alloc (.cells #[.int .i64 (q i).1, .string (q i).2] 45) = w7 at *
                have HYB : Hid (w6.heap.size ≠ wb) := HYB0.out
                generalize w6.heap.size = yb at *
                have C : Hid (∀ V, Below w7.heap.size w7 V → V.cell? ⟨wb, i * 2, none⟩ = some (.int .i64 (q i).1) ∧ V.cell? ⟨wb, i * 2 + 1, none⟩ = some (.string (q i).2) ∧ Blk V yb 45 #[.int .i64 (q i).1, .string (q i).2]) := fun V hV =>
                  have k := Blk.cellW (K7.out.more hV).wt (i := i) (by have := HI.out; have := HP8.out; omega)
                  ⟨k.1, k.2, Y7.keep hV Y7.lt⟩
                have hi0 : (0 : Int) ≤ (i : Int) := by omega
                refine' wp_region_conf 9 (.is _ :: .is _ :: .is _ :: .is _ :: .is _ :: .is _ :: .is _ :: .is _ :: .is _ :: []) (by kernel_rfl) (by kernel_rfl) (by kernel_rfl) (by kernel_rfl) rfl ?main
                case main =>
                  iterate 9
                    apply obs_step
                    · rfl
                    · intro w8 hE8 hk8
                      have hb8 := (Below.refl w7.heap.size w7).drew.trans hE8
                      obtain ⟨c0, c1, y8⟩ := C.out w8 hb8
                      clear hk8 hE8
                      go_wp2_with (first
                        | (refine wpList_load_row rfl 45 _ rfl yb rfl 45 _ (0, 0) _ y8 Tryz.underlying45 rfl (by kernel_rfl) ?_)

                        | (refine wp_page_neq_same _ _ _ rfl rfl (q i).1 (q i).2 rfl rfl ?_))
                      refine post_eq ?_ (Below.refl _ _)
                      simp only [Act.put, List.setIfInBounds_toArray, List.set_cons_zero, List.set_cons_succ]
                      try rfl
                    · simp only [Act.put, List.setIfInBounds_toArray, List.set_cons_zero, List.set_cons_succ]
                      rfl
                  refine obs_end fun w10 hE10 _ => ?_
                  have hb10 := (Below.refl w7.heap.size w7).drew.trans hE10
                  have KA := Lib.hid (K7.out.more hb10)
                  have YA := Lib.hid (Y7.keep hb10 Y7.lt)
                  clear hE10 hb10 K7 Y7 C
                  change wpList _ _ _ _ _ _
                  have z0 : w10.cell? ⟨zb, 0, none⟩ = some (.int .i64 p) := KA.out.sz.cell 0
                  go_wp2_with fail
                  go_loopw [146] (fun vk wk => ∃ k : Nat, vk = .int .i64 k ∧ k ≤ p ∧ K8 w1 p f g zb wb A wk F6 Y6 q q) (fun vk _ => p - (intOf vk).toNat)
                  case atStart => exact ⟨0, rfl, Nat.zero_le _, KA.out⟩
                  case round =>
                    obtain ⟨k, rfl, hkp, hkk⟩ := hrel
                    have KK := Lib.hid hkk
                    clear hkk KA z0
                    by_cases hltk : k < p
                    · have hkI : (k : Int) < p := by omega
                      have RD := Lib.hid (KK.out.read hltk (by have := T6.out; have := HL.out; omega))
                      have SO := Lib.hid (KK.out.safe_or hltk)
                      clear hltk
                      go_wp2_with fail
                      refine RD.out.mono ?_
                      rintro e w8 ⟨rfl, hb8⟩
                      have K9 := Lib.hid (KK.out.more (hb8.alloc hb8.size (.cells #[.int .i64 (Y6.P k).1, .string (Y6.P k).2] 45)))
                      have Y9 := Blk.new w8 45 #[.int .i64 (Y6.P k).1, .string (Y6.P k).2]
                      clear hb8 RD KK
                      go_upto_region 35 with fail
                      change Code.wp _ _ _ _ (w8.alloc (.cells #[.int .i64 (Y6.P k).1, .string (Y6.P k).2] 45))
                      generalize w8.alloc (.cells #[.int .i64 (Y6.P k).1, .string (Y6.P k).2] 45) = w9 at *
                      generalize w8.heap.size = yb at *
                      have e0 : w9.cell? ⟨yb, 0, none⟩ = some (.int .i64 (Y6.P k).1) := Y9.cell 0
                      have SF := Lib.hid (fun h0 h1 h2 => K9.out.safe (a := (Y6.P k).1) h0 h1 h2)
                      clear Y9
                      rcases SO.out with hs | ⟨hs, hs1, hs2⟩
                      · rw [hs] at e0
                        clear hs SO SF
                        go_wp2_with fail
                        go_roundw
                        case rel => exact ⟨k + 1, by go_num, by omega, K9.out⟩
                        case measure => simp [intOf]; omega
                      · have SF2 := Lib.hid (SF.out hs hs1 hs2)
                        clear SO SF hs1 hs2
                        generalize (Y6.P k).1 = pa at *
                        go_wp2_with fail
                        refine SF2.out.mono ?_
                        rintro e w10 ⟨rfl, rfl⟩
                        go_wp2
                        go_roundw
                        case rel => exact ⟨k + 1, by go_num, by omega, K9.out⟩
                        case measure => simp [intOf]; omega
                    · obtain rfl : k = p := by omega
                      go_wp2
                      go_roundw
                      case rel => exact ⟨j + 1, F6, Y6, q, by go_num, by omega, T6.out, KK.out⟩
                      case measure => simp [intOf]; omega
        · obtain rfl : j = ops.length := by omega
          have HBF := Lib.hid (HB1.out _ K0.out.live.below)
          clear K0
          go_wp2
          go_ret
          exact ⟨rfl, by rw [HZB.out]; exact HBF.out⟩

end Go.Proofs.YtpiaknmjepjglaaGreat

/- careenlaw08.PoolKeeps: sizes that may not be, scripts that are too long; every input. -/
namespace Go.Proofs.YtpiaknmjepjglaaGreat
open Go.RowKit

set_option maxRecDepth 100000 in
set_option maxHeartbeats 16000000 in
theorem keeps_bad (p f g : Int) (hz : ¬ Sizes8 p f g) (v : Value) (w : World) :
    Calls Tryz.prog 4 #[.agg #[.int .i64 p, .int .i64 f, .int .i64 g], v] w fun e w' => e = .returned (.bool true) ∧ Below w.heap.size w w' := by
  have X0 := Blk.new w 23 #[.int .i64 p, .int .i64 f, .int .i64 g]
  have hb0 := (Below.refl w.heap.size w).alloc (Nat.le_refl _) (.cells #[.int .i64 p, .int .i64 f, .int .i64 g] 23)
  have MK := Lib.hid (fun W => made_bad (w := W) p f g hz)
  clear hz
  go_enter Tryz.func4, Tryz.ntmps4
  go_upto_region 1 with fail
  change Code.wp _ _ _ _ (w.alloc (.cells #[.int .i64 p, .int .i64 f, .int .i64 g] 23))
  have HB0 := Lib.hid hb0
  have HX0 := Lib.hid X0
  clear hb0 X0
  generalize w.alloc (.cells #[.int .i64 p, .int .i64 f, .int .i64 g] 23) = w1 at *
  go_wp2_with (refine wpList_load_row rfl 23 _ rfl w.heap.size rfl 23 _ (0, 0) _ HX0.out Tryz.underlying23 rfl (by kernel_rfl) ?_)
  refine (MK.out _).mono ?_
  rintro e w2 ⟨v0, v1, v2, rfl, hb2⟩
  have HB2 := Lib.hid (below2 HB0.out hb2)
  clear hb2 HB0 HX0 MK
  go_wp2_with fail
  refine (awake8 _).mono ?_
  rintro e w3 ⟨rfl, hb3⟩
  have HB3 := Lib.hid (below2 HB2.out hb3)
  clear hb3 HB2
  go_wp2_with fail
  refine (awake8 _).mono ?_
  rintro e w4 ⟨rfl, hb4⟩
  have HB4 := Lib.hid (below2 HB3.out hb4)
  clear hb4 HB3
  go_wp2
  go_ret
  exact ⟨rfl, HB4.out⟩
set_option maxRecDepth 100000 in
set_option maxHeartbeats 16000000 in
theorem keeps_long (p f g : Nat) (p1 : 1 ≤ p) (p8 : p ≤ 8) (f1 : 1 ≤ f) (f8 : f ≤ 8) (g8 : 8 ≤ g) (g64 : g ≤ 64) (v : Value) (ops : List Op8) (w : World) (hv : IsOps8 w v ops) (hl : isLong8 ops) :
    Calls Tryz.prog 4 #[.agg #[.int .i64 p, .int .i64 f, .int .i64 g], v] w fun e w' => e = .returned (.bool true) ∧ Below w.heap.size w w' := by
  have X0 := Blk.new w 23 #[.int .i64 p, .int .i64 f, .int .i64 g]
  have hb0 := (Below.refl w.heap.size w).alloc (Nat.le_refl _) (.cells #[.int .i64 p, .int .i64 f, .int .i64 g] 23)
  have MK := Lib.hid (fun W => made_ok (w := W) p f g p1 p8 f1 f8 g8 g64)
  clear p1 p8 f1 f8 g8 g64
  go_enter Tryz.func4, Tryz.ntmps4
  go_upto_region 1 with fail
  change Code.wp _ _ _ _ (w.alloc (.cells #[.int .i64 p, .int .i64 f, .int .i64 g] 23))
  have HB0 := Lib.hid hb0
  have HX0 := Lib.hid X0
  have HV := Lib.hid hv
  clear hb0 X0 hv
  generalize w.alloc (.cells #[.int .i64 p, .int .i64 f, .int .i64 g] 23) = w1 at *
  go_wp2_with (refine wpList_load_row rfl 23 _ rfl w.heap.size rfl 23 _ (0, 0) _ HX0.out Tryz.underlying23 rfl (by kernel_rfl) ?_)
  refine (MK.out _).mono ?_
  rintro e w2 ⟨F, A, rfl, hlv, hn, hb⟩
  have HB2 := Lib.hid (below2 HB0.out hlv.below)
  clear hlv hn hb HB0 HX0 MK
  go_wp2_with fail
  refine (awake8 _).mono ?_
  rintro e w3 ⟨rfl, hb3⟩
  have HB3 := Lib.hid (below2 HB2.out hb3)
  have LG := Lib.hid (long8_any v ops w3 (HV.out.keep HB3.out) true (by simp [hl]))
  clear hb3 HB2
  go_wp2_with fail
  refine LG.out.mono ?_
  rintro e w4 ⟨rfl, hb4⟩
  have HB4 := Lib.hid (below2 HB3.out hb4)
  clear hb4 HB3 LG
  go_wp2_with fail
  refine (awake8 _).mono ?_
  rintro e w5 ⟨rfl, hb5⟩
  have HB5 := Lib.hid (below2 HB4.out hb5)
  clear hb5 HB4
  go_wp2
  go_ret
  exact ⟨rfl, HB5.out⟩
/-- The walk, for every input. -/
theorem walkPoolKeeps (p f g : Int) (v : Value) (ops : List Op8) (w : World) (hv : IsOps8 w v ops) :
    Calls Tryz.prog 4 #[.agg #[.int .i64 p, .int .i64 f, .int .i64 g], v] w fun e w' => e = .returned (.bool true) ∧ Below w.heap.size w w' := by
  by_cases hz : Sizes8 p f g
  · obtain ⟨⟨p1, p8⟩, ⟨f1, f8⟩, ⟨g8, g64⟩⟩ := hz
    obtain ⟨P, rfl⟩ := Int.eq_ofNat_of_zero_le (show 0 ≤ p by omega)
    obtain ⟨F, rfl⟩ := Int.eq_ofNat_of_zero_le (show 0 ≤ f by omega)
    obtain ⟨G, rfl⟩ := Int.eq_ofNat_of_zero_le (show 0 ≤ g by omega)
    by_cases hl : isLong8 ops
    · exact keeps_long P F G (by omega) (by omega) (by omega) (by omega) (by omega) (by omega) v ops w hv hl
    · exact keeps_go P F G (by omega) (by omega) (by omega) (by omega) (by omega) (by omega) v ops w hv hl
  · exact keeps_bad p f g hz v w
end Go.Proofs.YtpiaknmjepjglaaGreat

/- careenlaw08.PoolKeeps: it returns true for every input, and leaves its arguments as they were: the row's proof, out of the walk.
   Conditions: none beside the row's own (each argument is read as data). -/
namespace Go.Proofs.YtpiaknmjepjglaaGreat.poolKeeps
open Go.ChangeShapes Go.WideShapes Go.ChangeAt Go.RowKit Go.Joins
open Go.ChangeMaps (open_string shut_string)
set_option linter.unusedVariables false

theorem own : ownKnob Tryz.prog.godebug = none := by kernel_rfl
theorem laidOut : laidOutB Tryz.prog = true := by kernel_rfl
theorem cellsSizes : Tryz.prog.cellsOf 23 = 3 := by kernel_rfl

set_option maxRecDepth 100000 in
theorem lifted (os : Os) (started : os.Started) (H : Type) (enc : TypeId × Value → H) :
    ReturnsInHanded {} Tryz.checked os 4 .any (Rows.poolKeepsSpec.pre6 enc Tryz.prog Tryz.f4 Rows.poolKeepsRow.domain false) (Rows.poolKeepsSpec.post enc Tryz.prog Tryz.f4 false true false false) := by
  refine returnsInHanded_of_change (C := Tryz.checked) own started (by kernel_rfl) Tryz.func4
    (ChangeSpec.witness6 (enc := enc) (C := Tryz.checked) false ⟨#[], #[.agg #[.int .i64 0, .int .i64 0, .int .i64 0], .slice none 0 0], []⟩ 8 (by kernel_rfl) (by kernel_rfl) (by kernel_rfl) (by kernel_rfl)) ?_
  intro W base args ds gs before hval0 hW hcnd _
  have hval : ∀ (j : Nat) t v, Tryz.f4.params[j]? = some t → args[j]? = some v → Value.okWide Tryz.prog W .any base t v := hval0
  have hW' := hW
  obtain ⟨p, q, hA0, hV, rfl, hfz, hnd⟩ := hW
  have hA : DataW.TrodAll enc Tryz.prog W 0 (fun _ => true) true Tryz.f4.params.toList args.toList ds p := hA0
  rw [Tryz.params4] at hA hval
  obtain ⟨v0, vs0, d0, ds0, p0, q0, hargs, rfl, rfl, h0, r0⟩ := trodAll_cons hA
  obtain ⟨v1, vs1, d1, ds1, p1, q1, rfl, rfl, rfl, h1, r1⟩ := trodAll_cons r0
  obtain ⟨rfl, rfl, rfl⟩ := trodAll_nil r1
  obtain rfl : args = #[v0, v1] := by cases args; simp_all
  obtain ⟨rfl, rfl⟩ := trodVars_none hV
  have k0 := h0
  have lt0 : ∀ x ∈ p0, x.block < W.heap.size := by obtain ⟨m, hm⟩ := k0; exact DataW.trod_lt m _ _ _ hm
  have k1 := h1
  have lt1 : ∀ x ∈ p1, x.block < W.heap.size := by obtain ⟨m, hm⟩ := k1; exact DataW.trod_lt m _ _ _ hm
  obtain ⟨c00, c01, c02, y00, y01, y02, m0, rfl, rfl, hp0, hy00, hy01, hy02⟩ := open_agg3 Tryz.underlying23 (by kernel_rfl) cellsSizes (hval 0 23 v0 rfl rfl) h0
  obtain ⟨a00, e00, rfl, w00⟩ := DataW.trod_int Tryz.underlying3 hy00
  obtain ⟨a01, e01, rfl, w01⟩ := DataW.trod_int Tryz.underlying3 hy01
  obtain ⟨a02, e02, rfl, w02⟩ := DataW.trod_int Tryz.underlying3 hy02
  simp only [List.cons.injEq, and_true] at e00 e01 e02
  subst e00 e01 e02
  obtain ⟨a1, w1⟩ := open_ops8 (hval 1 24 v1 rfl rfl) h1
  clear hA0 hval0
  refine (walkPoolKeeps a00 a01 a02 v1 a1 W w1).mono fun e W' ⟨he, bel⟩ => ?_
  subst he
  exact ⟨_, rfl, _, _, _, [], _, [], hW', trodAll_mk1 (shut_bool Tryz.underlying4 _), (trodAll_cons_mk (Below.trod laidOut (by kernel_rfl) (of_decide_eq_true (by kernel_rfl)) k0 bel lt0) (trodAll_cons_mk (Below.trod laidOut (by kernel_rfl) (of_decide_eq_true (by kernel_rfl)) k1 bel lt1) trodAll_mk0)), rfl, bel.frame _, fun h => by cases h⟩

theorem over : Rows.poolKeepsRow.holds Tryz.pinned (OpenSpec.ofChange Rows.poolKeepsSpec) :=
  OpenClaim.holds_of_wide 4 Tryz.f4 rfl rfl rfl rfl rfl rfl rfl ⟨rfl, rfl, rfl, rfl, rfl⟩ rfl rfl rfl rfl rfl (by kernel_rfl) Tryz.func4 (by kernel_rfl)
    (of_decide_eq_true (by kernel_rfl)) (by unfold Func.isWrapper; first | (rw [if_pos (by decide +kernel)]; kernel_rfl) | (rw [if_neg (by decide +kernel)]; exact ⟨rfl, rfl⟩))
    (fun os started H enc _ => lifted os started H enc)

/-- The given statement. -/
theorem proved : Rows.PoolKeepsSaid := over
end Go.Proofs.YtpiaknmjepjglaaGreat.poolKeeps
