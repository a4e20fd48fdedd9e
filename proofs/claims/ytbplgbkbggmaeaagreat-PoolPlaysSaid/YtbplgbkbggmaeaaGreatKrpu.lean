/- Texts that belong together, joined: RpU, RpV. -/
import Derived.Test.YtbplgbkbggmaeaaGreatKrpr
import Derived.Test.YtbplgbkbggmaeaaGreatKpof
namespace Go.Proofs.YtbplgbkbggmaeaaGreat
open Go.RowKit
theorem Pool9.apart {w w' : World} {F : Foot} {A : A9} {Y : Y8} (h : Pool9 w F A Y) (hk : ∀ b, F b → w'.heap[b]? = w.heap[b]?) (hs : w.heap.size ≤ w'.heap.size) : Pool9 w' F A Y := by
 obtain ⟨FD, FL, h, rfl⟩ := h
 exact ⟨FD, FL, ⟨⟨h.sto.disk.keep (fun b hb => hk b (.inl (.inl hb))) hs, h.sto.ok, (hk _ (.inl (.inr rfl))).trans h.sto.head, h.sto.apart, h.sto.b5, h.sto.n8⟩, h.log.keep (fun b hb => hk b (.inr (.inl hb))) hs, h.pool.keep fun b hb => hk b (.inr (.inr hb)), h.dl, h.ls, h.pd, h.ok⟩, rfl⟩
structure Duo (w0 w : World) (F : Foot) (A : A8) (G : Foot) (B : A9) (Y Z : Y8) : Prop where
 a : Pool8 w F A Y
 b : Pool9 w G B Z
 ap : ∀ x, F x → ¬ G x
 nf : ∀ x, F x → w0.heap.size ≤ x
 ng : ∀ x, G x → w0.heap.size ≤ x
 below : Below w0.heap.size w0 w
 n : B.n = A.n
 base : B.base = A.base
namespace Duo
variable {w0 w w' : World} {F F' G G' : Foot} {A : A8} {B : A9} {Y Y' Z Z' : Y8}
theorem more (h : Duo w0 w F A G B Y Z) (hb : Below w.heap.size w w') : Duo w0 w' F A G B Y Z :=
 ⟨h.a.more hb, h.b.more hb, h.ap, h.nf, h.ng, h.below.trans (hb.mono h.below.size), h.n, h.base⟩
theorem stepA (h : Duo w0 w F A G B Y Z) (hp : Pool8 w' F' A Y') (hs : Step F F' w w') : Duo w0 w' F' A G B Y' Z :=
 ⟨hp, h.b.apart (fun x hx => hs.block x (h.b.lt x hx) fun e => h.ap x e hx) hs.size, fun x hx hg => (hs.foot x hx).elim (fun e => h.ap x e hg) fun e => by have := h.b.lt x hg; omega, hs.from_ h.nf h.below.size, h.ng, hs.belowB h.nf h.below h.below.size, h.n, h.base⟩
theorem stepB (h : Duo w0 w F A G B Y Z) (hp : Pool9 w' G' B Z') (hs : Step G G' w w') : Duo w0 w' F A G' B Y Z' :=
 ⟨h.a.apart (fun x hx => hs.block x (h.a.lt x hx) fun e => h.ap x hx e) hs.size, hp, fun x hx hg => (hs.foot x hg).elim (h.ap x hx) fun e => by have := h.a.lt x hx; omega, h.nf, hs.from_ h.ng h.below.size, hs.belowB h.ng h.below h.below.size, h.n, h.base⟩
theorem getA (h : Duo w0 w F A G B Y Z) (i : Int) (ht : Y.t < 4294967295) : Calls Tryz.prog 11 #[.pointer (some ⟨A.q, 0, none⟩), .int .i64 i] w fun e w' => e = .returned (pgOut (Y.getY A.base A.n i).2.1 (Y.getY A.base A.n i).2.2) ∧ ∃ F', Duo w0 w' F' A G B (Y.getY A.base A.n i).1 Z ∧ Step F F' w w' :=
 (poGet_any h.a i ht).mono fun _ _ ⟨he, F', k1, k2⟩ => ⟨he, F', h.stepA k1 k2, k2⟩
theorem getB (h : Duo w0 w F A G B Y Z) (i : Int) (ht : Z.t < 4294967295) : Calls Tryz.prog 12 #[.pointer (some ⟨B.q, 0, none⟩), .int .i64 i] w fun e w' => e = .returned (pgOut (Z.getY A.base A.n i).2.1 (Z.getY A.base A.n i).2.2) ∧ ∃ G', Duo w0 w' F A G' B Y (Z.getY A.base A.n i).1 ∧ Step G G' w w' := by
 have := rqGet_any h.b i ht
 rw [h.n, h.base] at this
 exact this.mono fun _ _ ⟨he, G', k1, k2⟩ => ⟨he, G', h.stepB k1 k2, k2⟩
theorem putA (h : Duo w0 w F A G B Y Z) (i : Int) (x : Pag) : Calls Tryz.prog 13 #[.pointer (some ⟨A.q, 0, none⟩), .int .i64 i, .agg #[.int .i64 x.1, .string x.2]] w fun e w' => e = .returned (.int .i64 (Y.putY i x).2) ∧ ∃ F', Duo w0 w' F' A G B (Y.putY i x).1 Z ∧ Step F F' w w' :=
 (poPut_any h.a i x).mono fun _ _ ⟨he, F', k1, k2⟩ => ⟨he, F', h.stepA k1 k2, k2⟩
theorem putB (h : Duo w0 w F A G B Y Z) (i : Int) (x : Pag) : Calls Tryz.prog 14 #[.pointer (some ⟨B.q, 0, none⟩), .int .i64 i, .agg #[.int .i64 x.1, .string x.2]] w fun e w' => e = .returned (.int .i64 (Z.putY i x).2) ∧ ∃ G', Duo w0 w' F A G' B Y (Z.putY i x).1 ∧ Step G G' w w' :=
 (rqPut_any h.b i x).mono fun _ _ ⟨he, G', k1, k2⟩ => ⟨he, G', h.stepB k1 k2, k2⟩
theorem evictA (h : Duo w0 w F A G B Y Z) (k : Int) (ht : Y.t < 4294967296) : Calls Tryz.prog 15 #[.pointer (some ⟨A.q, 0, none⟩), .int .i64 k] w fun e w' => e = .returned (.int .i64 (Y.evictY A.base k).2) ∧ ∃ F', Duo w0 w' F' A G B (Y.evictY A.base k).1 Z ∧ Step F F' w w' :=
 (poEvict_any h.a k ht).mono fun _ _ ⟨he, F', k1, k2⟩ => ⟨he, F', h.stepA k1 k2, k2⟩
theorem evictB (h : Duo w0 w F A G B Y Z) (k : Int) (ht : Z.t < 4294967296) : Calls Tryz.prog 16 #[.pointer (some ⟨B.q, 0, none⟩), .int .i64 k] w fun e w' => e = .returned (.int .i64 (Z.evictY A.base k).2) ∧ ∃ G', Duo w0 w' F A G' B Y (Z.evictY A.base k).1 ∧ Step G G' w w' := by
 have := rqEvict_any h.b k ht
 rw [h.base] at this
 exact this.mono fun _ _ ⟨he, G', k1, k2⟩ => ⟨he, G', h.stepB k1 k2, k2⟩
theorem dropA (h : Duo w0 w F A G B Y Z) (i : Int) : Calls Tryz.prog 17 #[.pointer (some ⟨A.q, 0, none⟩), .int .i64 i] w fun e w' => e = .returned (.int .i64 (Y.dropY i).2) ∧ ∃ F', Duo w0 w' F' A G B (Y.dropY i).1 Z ∧ Step F F' w w' :=
 (poDrop_any h.a i).mono fun _ _ ⟨he, F', k1, k2⟩ => ⟨he, F', h.stepA k1 k2, k2⟩
theorem dropB (h : Duo w0 w F A G B Y Z) (i : Int) : Calls Tryz.prog 18 #[.pointer (some ⟨B.q, 0, none⟩), .int .i64 i] w fun e w' => e = .returned (.int .i64 (Z.dropY i).2) ∧ ∃ G', Duo w0 w' F A G' B Y (Z.dropY i).1 ∧ Step G G' w w' :=
 (rqDrop_any h.b i).mono fun _ _ ⟨he, G', k1, k2⟩ => ⟨he, G', h.stepB k1 k2, k2⟩
theorem appA (h : Duo w0 w F A G B Y Z) {v : Value} {r : Rc} (hv : IsRec w v r) (hf : Fit r) : Calls Tryz.prog 19 #[.pointer (some ⟨A.g, 0, none⟩), v] w fun e w' => e = .returned (.tuple #[.int .i64 (Y.lg.app r).1, .int .i64 (Y.lg.app r).2.1]) ∧ ∃ F', Duo w0 w' F' A G B { Y with lg := (Y.lg.app r).2.2 } Z ∧ Step F F' w w' :=
 (p8_append h.a hv hf).mono fun _ _ ⟨he, F', k1, k2⟩ => ⟨he, F', h.stepA k1 k2, k2⟩
theorem appB (h : Duo w0 w F A G B Y Z) {v : Value} {r : Rc} (hv : IsRec w v r) (hf : Fit r) : Calls Tryz.prog 20 #[.pointer (some ⟨B.g, 0, none⟩), v] w fun e w' => e = .returned (.tuple #[.int .i64 (Z.lg.app r).1, .int .i64 (Z.lg.app r).2.1]) ∧ ∃ G', Duo w0 w' F A G' B Y { Z with lg := (Z.lg.app r).2.2 } ∧ Step G G' w w' := by
 obtain ⟨FD, FL, k, e⟩ := h.b
 refine (rlAppend_any k.log hv hf).mono ?_
 rintro e' w' ⟨he, FL', hl, hs⟩
 obtain ⟨k1, k2⟩ := k.sys.onLog hl hs
 obtain ⟨k3, k4⟩ := k.onLog k1 k2 (k.ok.append r)
 subst e
 exact ⟨he, _, h.stepB ⟨_, _, k3, rfl⟩ k4, k4⟩
theorem okA (h : Duo w0 w F A G B Y Z) : Ok8 A.base A.n Y := h.a.ok
end Duo
theorem Ok8.arm {base n : Nat} {Y : Y8} (h : Ok8 base n Y) (k : Int) (hk : k < 9223372036854775808) : Ok8 base n { Y with D := Y.D.arm k } :=
 ⟨h.len1, h.len8, h.hand, h.uniq, h.fr, h.n1, h.n8, h.dk.arm k hk, h.lok, h.ep, h.room, h.above, h.ring, h.alive.elim (fun e => .inl e) fun ⟨σ, c⟩ => .inr ⟨σ, ⟨⟨c.lies.ok.arm k hk, c.lies.rep, c.lies.waits, c.lies.gone⟩, c.all, c.tidy⟩⟩⟩
namespace Duo
variable {w0 w w' : World} {F F' G G' : Foot} {A : A8} {B : A9} {Y Y' Z Z' : Y8}
theorem armA (h : Duo w0 w F A G B Y Z) (k : Int) (hk : k < 9223372036854775808) : Calls Tryz.prog 22 #[.pointer (some ⟨A.gd, 0, none⟩), .int .i64 k] w fun e w' => e = .returned (.tuple #[]) ∧ ∃ F', Duo w0 w' F' A G B { Y with D := Y.D.arm k } Z ∧ Step F F' w w' := by
 obtain ⟨FD, FL, q, e⟩ := h.a
 refine (arm_any q.sto.disk k hk).mono ?_
 rintro e' w' ⟨he, hd, hs⟩
 obtain ⟨k1, k2⟩ := q.onSto (P := Y.P) (t := Y.t) (q.sto.onDisk hd hs) hs.ofS (q.ok.arm k hk)
 subst e
 exact ⟨he, _, h.stepA ⟨_, _, k1, rfl⟩ k2, k2⟩
theorem armB (h : Duo w0 w F A G B Y Z) (k : Int) (hk : k < 9223372036854775808) : (∃ u, w.cell? ⟨B.gd, 3, none⟩ = some u) ∧ w.frozen? ⟨B.gd, 3, none⟩ = false ∧ G B.gd ∧
   ∃ G', Duo w0 (w.setCell ⟨B.gd, 3, none⟩ (.int .i64 (if 0 ≤ k then k else -1))) F A G' B Y { Z with D := Z.D.arm k } := by
 obtain ⟨FD, FL, q, e⟩ := h.b
 obtain ⟨vs, vq, r⟩ := id q.sto.disk
 obtain ⟨_, _, _, c3⟩ := r.cells
 have hd : IsRef (w.setCell ⟨B.gd, 3, none⟩ (.int .i64 (if 0 ≤ k then k else -1))) FD B.gd (Z.D.arm k) := by
   refine ⟨vs, vq, ?_⟩
   have := r.set1 3 (.int .i64 (if 0 ≤ k then k else -1)) (gone := Z.D.gone) (k := if 0 ≤ k then some k.toNat else none) (by
     by_cases h0 : 0 ≤ k
     · simp [refCells, refFuse, h0]; omega
     · simp [refCells, refFuse, h0])
   exact this
 have hs : Step FD FD w (w.setCell ⟨B.gd, 3, none⟩ (.int .i64 (if 0 ≤ k then k else -1))) := (Step.refl FD w).set (p := ⟨B.gd, 3, none⟩) r.fg _
 obtain ⟨k1, k2⟩ := q.onSto (P := Z.P) (t := Z.t) (q.sto.onDisk hd (q.sto.ok.arm k hk) hs) hs.ofS (q.ok.arm k hk)
 subst e
 exact ⟨⟨_, c3⟩, r.frozen 3, .inl (.inl r.fg), _, h.stepB ⟨_, _, k1, rfl⟩ k2⟩
theorem dead (h : Duo w0 w F A G B Y Z) : Calls Tryz.prog 26 #[.pointer (some ⟨A.gd, 0, none⟩)] w fun e w' => e = .returned (.bool Y.D.gone) ∧ w = w' := by
 obtain ⟨FD, FL, q, e⟩ := h.a
 exact dead_any q.sto.disk
theorem waiting (h : Duo w0 w F A G B Y Z) : Calls Tryz.prog 27 #[.pointer (some ⟨A.gd, 0, none⟩)] w fun e w' => e = .returned (.int .i64 Y.D.waits.length) ∧ w = w' := by
 obtain ⟨FD, FL, q, e⟩ := h.a
 exact waiting_any q.sto.disk
theorem refDisk (h : Duo w0 w F A G B Y Z) : w.cell? ⟨B.gd, 2, none⟩ = some (.bool Z.D.gone) ∧ ∃ va vc, w.cell? ⟨B.gd, 1, none⟩ = some (.slice va Z.D.waits.length vc) := by
 obtain ⟨FD, FL, q, e⟩ := h.b
 obtain ⟨vs, vq, r⟩ := q.sto.disk
 obtain ⟨va, vc, rfl⟩ := own_slice r.wait
 exact ⟨r.cells.2.2.1, va, vc, r.cells.2.1⟩
end Duo
end Go.Proofs.YtbplgbkbggmaeaaGreat

namespace Go.Proofs.YtbplgbkbggmaeaaGreat
open Go.RowKit
theorem duo_start {w0 w : World} {F : Foot} {A : A8} {p f g : Nat} {s gd gl q gf cap s0 s1 s2 : Nat} {FD FL : Foot} (p1 : 1 ≤ p) (p8 : p ≤ 8) (f1 : 1 ≤ f) (f8 : f ≤ 8) (g8 : 8 ≤ g) (g64 : g ≤ 64)
   (hlv : Live8 w0 w F A (Y8.new f g)) (hn : A.n = p) (hb : A.base = 0) (hF : ∀ b, F b → b < s0) (h0 : w0.heap.size ≤ s0)
   (hd : IsR7 w FD s gd (Dk.new 100) 0 p 1) (hFD : ∀ b, FD b → s0 ≤ b ∧ b < s) (hs : s0 ≤ s) (hs1 : s < s1) (hl : IsRL w FL gl gd (Wl.new 30 g)) (hFL : ∀ b, FL b → s1 ≤ b ∧ b < s2)
   (hq : ∀ A : A9, A.q = q → A.gf = gf → A.cap = cap → A.s = s → A.g = gl → IsQ w A (List.replicate f none) 0) (hq2 : s2 ≤ q) (hgf : s2 ≤ gf) (h12 : s1 ≤ s2) :
   ∃ G B, Duo w0 w F A G B (Y8.new f g) (Y8.new f g) ∧ B.q = q ∧ B.s = s ∧ B.g = gl ∧ B.gd = gd := by
 have hok : Ok8 0 p (Y8.new f g) := Ok8.new p1 p8 f1 f8 g8 g64
 refine ⟨F9 FD FL ⟨q, gf, cap, s, gl, gd, 0, p⟩, ⟨q, gf, cap, s, gl, gd, 0, p⟩, ⟨hlv.pool, ⟨FD, FL, ⟨hd, hl, hq _ rfl rfl rfl rfl rfl, fun b h1 h2 => ?_, fun h2 => ?_, fun b hb => ?_, hok⟩, rfl⟩, ?_, hlv.newF, ?_, hlv.below, hn.symm, hb.symm⟩, rfl, rfl, rfl, rfl⟩
 · have := (hFD b h1).2; have := (hFL b h2).1; omega
 · have := (hFL s h2).1; omega
 · have e : b = q ∨ b = gf := hb
   have hbs : s2 ≤ b := by omega
   exact ⟨fun e => by have := (hFD b e).2; omega, by show b ≠ s; omega, fun e => by have := (hFL b e).2; omega⟩
 · intro x hx hg
   have hx0 := hF x hx
   rcases hg with (e | e) | e | e | e
   · have := (hFD x e).1; omega
   · have e : x = s := e; omega
   · have := (hFL x e).1; omega
   · have e : x = q := e; omega
   · have e : x = gf := e; omega
 · intro x hg
   rcases hg with (e | e) | e | e | e
   · have := (hFD x e).1; omega
   · have e : x = s := e; omega
   · have := (hFL x e).1; omega
   · have e : x = q := e; omega
   · have e : x = gf := e; omega
section
variable {base n : Nat} {Y : Y8}
theorem put_len (i : Int) (x : Pag) : (Y.putY i x).1.l.length = Y.l.length ∧ (Y.putY i x).1.t = Y.t := by
 unfold Y8.putY
 cases hh : holds Y.l i with
 | none => exact ⟨rfl, rfl⟩
 | some k =>
   obtain ⟨fr, hk, -⟩ := holds_some hh
   simp only
   split
   · rw [setPg_some hk]
     exact ⟨by simp, rfl⟩
   · exact ⟨rfl, rfl⟩
theorem drop_len (i : Int) : (Y.dropY i).1.l.length = Y.l.length ∧ (Y.dropY i).1.t = Y.t := by
 unfold Y8.dropY
 cases hh : holds Y.l i with
 | none => exact ⟨rfl, rfl⟩
 | some k => exact ⟨by show (Y.l.set k none).length = _; simp, rfl⟩
end
end Go.Proofs.YtbplgbkbggmaeaaGreat
