/- Texts that belong together, joined: WalK, WalL, WlE, WalN. -/
import Derived.Test.YtopihafmajadfaaJwalE
import Derived.Test.YtopihafmajadfaaJwalH
import Derived.Test.YtopihafmajadfaaJdisk
import Derived.Test.YtopihafmajadfaaRecM2
import Derived.Test.YtopihafmajadfaaOpenRecs
import Derived.Deep.DeepCutAuto
/- Package wal: any Append; a disk and a log that were made since a world. -/
namespace Go.Proofs.Ytopihafmajadfaa
open Go.RowKit

/-- What an Append comes to: the record's place, its error, the log behind it. -/
noncomputable def Wl.app (l : Wl) (r : Rc) : Nat × Nat × Wl := open Classical in if May r then (l.putAt r, l.putE r, l.put r) else (0, 1, l)
theorem Wl.app_may {l : Wl} {r : Rc} (h : May r) : l.app r = (l.putAt r, l.putE r, l.put r) := by unfold Wl.app; rw [if_pos h]
theorem Wl.app_not {l : Wl} {r : Rc} (h : ¬ May r) : l.app r = (0, 1, l) := by unfold Wl.app; rw [if_neg h]
theorem append_may {w : World} {F : Foot} {g gd : Nat} {l : Wl} {v : Value} {r : Rc} (h : IsLog w F g gd l) (hv : IsRec w v r) (hm : May r) :
    Calls Try.prog 24 #[.pointer (some ⟨g, 0, none⟩), v] w (AppOut w F g gd (l.putAt r) (l.putE r) (l.put r)) := by
  unfold Wl.putE
  by_cases hj : l.joins r
  · rw [if_pos hj]; exact append_join h hv hm hj
  · rw [if_neg hj]
    by_cases hr : l.secs.length < l.size
    · rw [if_pos hr]
      by_cases hne : l.end_ = l.first
      · exact append_new1 h hv hm hj hne hr
      · exact append_new2 h hv hm hj hne hr
    · rw [if_neg hr]
      by_cases hne : l.end_ = l.first
      · exact append_full1 h hv hm hj hne hr
      · exact append_full2 h hv hm hj hne hr
theorem append_any {w : World} {F : Foot} {g gd : Nat} {l : Wl} {v : Value} {r : Rc} (h : IsLog w F g gd l) (hv : IsRec w v r) (hf : Fit r) :
    Calls Try.prog 24 #[.pointer (some ⟨g, 0, none⟩), v] w (AppOut w F g gd (l.app r).1 (l.app r).2.1 (l.app r).2.2) := by
  by_cases hm : May r
  · rw [Wl.app_may hm]; exact append_may h hv hm
  · rw [Wl.app_not hm]; exact append_bad h hv hf hm

/-- A disk and a log that were made since w0. -/
structure LiveL (w0 w : World) (FD FL : Foot) (g gd : Nat) (D : Dk) (l : Wl) : Prop where
  sys : Sys w FD FL g gd D l
  newD : ∀ b, FD b → w0.heap.size ≤ b
  newL : ∀ b, FL b → w0.heap.size ≤ b
  below : Below w0.heap.size w0 w
namespace LiveL
variable {w0 w w' : World} {FD FL FD' FL' : Foot} {g gd : Nat} {D D' : Dk} {l l' : Wl}
theorem new (h : LiveL w0 w FD FL g gd D l) : ∀ b, Both FD FL b → w0.heap.size ≤ b := fun b hb => hb.elim (h.newD b) (h.newL b)
theorem more (h : LiveL w0 w FD FL g gd D l) (hb : Below w.heap.size w w') : LiveL w0 w' FD FL g gd D l := ⟨h.sys.more hb, h.newD, h.newL, h.below.trans (hb.mono h.below.size)⟩
theorem step (h : LiveL w0 w FD FL g gd D l) (hs : Sys w' FD' FL' g gd D' l') (st : Step (Both FD FL) (Both FD' FL') w w') : LiveL w0 w' FD' FL' g gd D' l' :=
  ⟨hs, fun b hb => st.from_ h.new h.below.size b (.inl hb), fun b hb => st.from_ h.new h.below.size b (.inr hb), st.belowB h.new h.below h.below.size⟩
theorem only (h : LiveL w0 w FD FL g gd D l) {S : Nat → Prop} (hb : Only S w w') (hS : ∀ b, Both FD FL b → ¬ S b) (hn : ∀ b, S b → w0.heap.size ≤ b) : LiveL w0 w' FD FL g gd D l :=
  ⟨⟨h.sys.disk.keep (fun b hF => hb.block b (h.sys.disk.lt b hF) (hS b (.inl hF))) hb.size, h.sys.log.only hb fun b hF => hS b (.inr hF), h.sys.apart⟩, h.newD, h.newL, hb.below h.below h.below.size hn⟩
theorem append {v : Value} {r : Rc} (h : LiveL w0 w FD FL g gd D l) (hv : IsRec w v r) (hf : Fit r) :
    Calls Try.prog 24 #[.pointer (some ⟨g, 0, none⟩), v] w fun e w' => e = .returned (.tuple #[.int .i64 (l.app r).1, .int .i64 (l.app r).2.1]) ∧ ∃ FL', LiveL w0 w' FD FL' g gd D (l.app r).2.2 ∧ Step (Both FD FL) (Both FD FL') w w' :=
  (append_any h.sys.log hv hf).mono fun _ _ ⟨he, F', hl, hs⟩ => ⟨he, F', h.step (h.sys.onLog hl hs).1 (h.sys.onLog hl hs).2, (h.sys.onLog hl hs).2⟩
theorem flush (h : LiveL w0 w FD FL g gd D l) (hep : l.epoch < 4294967296) (hw : D.waits.length ≤ 1000000) :
    Calls Try.prog 25 #[.pointer (some ⟨g, 0, none⟩)] w fun e w' => e = .returned (.int .i64 (l.flush D).2.2) ∧ ∃ FD', LiveL w0 w' FD' FL g gd (l.flush D).1 (l.flush D).2.1 ∧ Step (Both FD FL) (Both FD' FL) w w' :=
  (flush_any h.sys hep hw).mono fun _ _ ⟨he, FD', hs, st⟩ => ⟨he, FD', h.step hs st, st⟩
theorem crash (h : LiveL w0 w FD FL g gd D l) (v : Value) (p : List UInt8) (hr : Reads w v (byteVs p)) (hv : p ≠ [] → ∀ b, v.ownBlock = some b → b < w0.heap.size) :
    Calls Try.prog 27 #[.pointer (some ⟨gd, 0, none⟩), v] w fun e w' => e = .returned (.tuple #[]) ∧ LiveL w0 w' FD FL g gd (D.crash p) l ∧ Step (Both FD FL) (Both FD FL) w w' :=
  (crash_any h.sys.disk v p hr fun hp b hb hF => by have := hv hp b hb; have := h.newD b hF; omega).mono fun _ _ ⟨he, hd, st⟩ => ⟨he, h.step (h.sys.onDisk hd st).1 (h.sys.onDisk hd st).2, (h.sys.onDisk hd st).2⟩
theorem arm (h : LiveL w0 w FD FL g gd D l) (k : Int) (hk : k < 9223372036854775808) :
    Calls Try.prog 26 #[.pointer (some ⟨gd, 0, none⟩), .int .i64 k] w fun e w' => e = .returned (.tuple #[]) ∧ LiveL w0 w' FD FL g gd (D.arm k) l ∧ Step (Both FD FL) (Both FD FL) w w' :=
  (arm_any h.sys.disk k hk).mono fun _ _ ⟨he, hd, st⟩ => ⟨he, h.step (h.sys.onDisk hd st).1 (h.sys.onDisk hd st).2, (h.sys.onDisk hd st).2⟩
theorem open_ (h : LiveL w0 w FD FL g gd D l) (hgone : D.gone = false) (base n low : Nat) (h8 : 8 ≤ n) (h64 : n ≤ 64) (hb : base + n ≤ D.safe.length) (hl : 1 ≤ low) (hlm : low ≤ 16777216) :
    Calls Try.prog 28 #[.pointer (some ⟨gd, 0, none⟩), .int .i64 base, .int .i64 n, .int .i64 low] w fun e w' => ∃ g2 F, e = .returned (.tuple #[.pointer (some ⟨g2, 0, none⟩), .int .i64 0]) ∧ LiveL w0 w' FD F g2 gd D (Wl.opened D base n low) ∧ (∀ b, F b → w.heap.size ≤ b) ∧ Below w.heap.size w w' :=
  (open_ok h.sys.disk hgone base n low h8 h64 hb hl hlm).mono fun _ _ ⟨g2, F, he, hl, hF, hbel⟩ => ⟨g2, F, he, ⟨⟨h.sys.disk.below hbel, hl, fun b hb hl => by have := hF b hl; have := h.sys.disk.lt b hb; omega⟩, h.newD, fun b hb => Nat.le_trans h.below.size (hF b hb), h.below.trans (hbel.mono h.below.size)⟩, hF, hbel⟩
theorem make {gd : Nat} (h : IsDisk w FD gd D) (hn : ∀ b, FD b → w0.heap.size ≤ b) (hb0 : Below w0.heap.size w0 w) (base n : Nat) (h8 : 8 ≤ n) (h64 : n ≤ 64) (hb : base + n ≤ D.safe.length) :
    Calls Try.prog 21 #[.pointer (some ⟨gd, 0, none⟩), .int .i64 base, .int .i64 n] w fun e w' => ∃ g F, e = .returned (.tuple #[.pointer (some ⟨g, 0, none⟩), .int .i64 0]) ∧ LiveL w0 w' FD F g gd D (Wl.new base n) :=
  (logNew_ok h base n h8 h64 hb).mono fun _ _ ⟨g, he, hl, hg, hbel⟩ => ⟨g, _, he, ⟨h.below hbel, hl, fun b hb e => by subst e; have := h.lt b hb; omega⟩, hn, fun b e => by subst e; exact Nat.le_trans hb0.size hg, hb0.trans (hbel.mono hb0.size)⟩
theorem appendAs {v : Value} {r : Rc} (h : LiveL w0 w FD FL g gd D l) (hv : IsRec w v r) (hf : Fit r) {a er : Nat} {l' : Wl} (ha : l.app r = (a, er, l')) (x y : Int) (hx : (a : Int) = x) (hy : (er : Int) = y) :
    Calls Try.prog 24 #[.pointer (some ⟨g, 0, none⟩), v] w fun e w' => e = .returned (.tuple #[.int .i64 x, .int .i64 y]) ∧ ∃ FL', LiveL w0 w' FD FL' g gd D l' ∧ Step (Both FD FL) (Both FD FL') w w' := by
  have := h.append hv hf
  rw [ha] at this
  subst hx hy
  exact this
theorem flushAs (h : LiveL w0 w FD FL g gd D l) (hep : l.epoch < 4294967296) (hw : D.waits.length ≤ 1000000) {D' : Dk} {l' : Wl} (hD : (l.flush D).1 = D') (hl : (l.flush D).2.1 = l') (y : Int) (hy : ((l.flush D).2.2 : Int) = y) :
    Calls Try.prog 25 #[.pointer (some ⟨g, 0, none⟩)] w fun e w' => e = .returned (.int .i64 y) ∧ ∃ FD', LiveL w0 w' FD' FL g gd D' l' ∧ Step (Both FD FL) (Both FD' FL) w w' := by
  subst hD hl hy
  exact h.flush hep hw
end LiveL
theorem begin_any (w : World) : Calls Try.prog 49 #[] w fun e w' => ∃ v, e = .returned v ∧ IsRec w' v .begin5 ∧ Below w.heap.size w w' := by
  go_enter Try.func49, Try.ntmps49
  go_wp2
  exact bodyPost_ret (results_cell_row rfl _ _ w.heap.size 26 (recCells .begin5 (.slice none 0 0) (.slice none 0 0)) (0, 0) _ rfl (Blk.new w 26 _) Try.underlying26 rfl (by kernel_rfl)) rfl ⟨_, rfl, ⟨_, _, rfl, Lists.nil _ .begin5 rfl rfl⟩, (Below.refl _ _).alloc (Nat.le_refl _) _⟩
end Go.Proofs.Ytopihafmajadfaa

/- careenlaw05: what the document fixes comes out. -/
namespace Go.Proofs.Ytopihafmajadfaa
open Go.RowKit

namespace Aw5
def R : Rc := .begin5
theorem layR : lay R = [5] := by decide
theorem mR : May R := .beg
def l0 : Wl := Wl.new 1 8
def l1 : Wl := { l0 with secs := [[R]] }
def l2 : Wl := { l0 with secs := [[R, R]] }
def l3 : Wl := { l2 with first := 2 }
def l4 : Wl := { l3 with secs := [[R, R], [R]] }
def D0 : Dk := Dk.new 10
theorem body1 : (body [R]).length = 1 := by simp [body, layR]
theorem a1 : l0.app R = (128, 0, l1) := by
  rw [Wl.app_may mR]
  have hj : ¬ l0.joins R := by unfold Wl.joins; intro h; exact absurd h.1 (by decide)
  simp only [Wl.putAt, Wl.putE, Wl.put, if_neg hj]
  rfl
theorem a2 : l1.app R = (129, 0, l2) := by
  rw [Wl.app_may mR]
  have hj : l1.joins R := by
    unfold Wl.joins
    refine ⟨by decide, ?_⟩
    show (body [R]).length + (lay R).length ≤ 112
    rw [body1, layR]; decide
  simp only [Wl.putAt, Wl.putE, Wl.put, if_pos hj]
  show ((l1.end_ - 1) * 128 + (body [R]).length, 0, _) = _
  rw [body1]
  rfl
theorem a3 : l3.app R = (256, 0, l4) := by
  rw [Wl.app_may mR]
  have hj : ¬ l3.joins R := by unfold Wl.joins; intro h; exact absurd h.1 (by decide)
  simp only [Wl.putAt, Wl.putE, Wl.put, if_neg hj]
  rfl
theorem ok0 : l0.Ok := Wl.Ok.new (by decide) (by decide) (by decide)
theorem short : (lay R).length ≤ 112 := by rw [layR]; decide
theorem put1 : l1 = l0.put R := by have := a1; rw [Wl.app_may mR] at this; exact (Prod.mk.inj (Prod.mk.inj this).2).2.symm
theorem put2 : l2 = l1.put R := by have := a2; rw [Wl.app_may mR] at this; exact (Prod.mk.inj (Prod.mk.inj this).2).2.symm
theorem put4 : l4 = l3.put R := by have := a3; rw [Wl.app_may mR] at this; exact (Prod.mk.inj (Prod.mk.inj this).2).2.symm
theorem ok1 : l1.Ok := by rw [put1]; exact ok0.put mR short
theorem ok2 : l2.Ok := by rw [put2]; exact ok1.put mR short
theorem s0 : Stands D0 l0 := Stands.new (by decide)
theorem s2 : Stands D0 l2 := by rw [put2, put1]; exact (s0.put ok0 R).put (by rw [← put1]; exact ok1) R
theorem hE2 : l2.epoch < 4294967296 := by show (1 : Nat) < 4294967296; omega
theorem f0 : (l2.flush D0).2.2 = 0 := s2.flush_ok ok2 (by unfold D0 Dk.new; rfl)
theorem f1 : (l2.flush D0).2.1 = l3 := (s2.flushed ok2 hE2 f0).1
theorem fs : Stands (l2.flush D0).1 l3 := (s2.flushed ok2 hE2 f0).2.1
theorem fn : (l2.flush D0).1.safe.length = 10 := (s2.flushed ok2 hE2 f0).2.2.2.trans (by simp [D0, Dk.new])
theorem fu : (l2.flush D0).1.fuse = none := (s2.flushed ok2 hE2 f0).2.2.1 (by unfold D0 Dk.new; rfl)
theorem fr : (l2.flush D0).1.safe = settleTo (fun _ => 1) (l2.pairs 1 1) D0.safe 1 := ((flush_shape s2 ok2).resolve_right fun h => h.1 f0).2.2.2.2.1
def D1 : Dk := (l2.flush D0).1
theorem D1_eq : D1 = (l2.flush D0).1 := rfl
theorem s3 : Stands D1 l3 := by rw [D1_eq]; exact fs
theorem n1 : D1.safe.length = 10 := by rw [D1_eq]; exact fn
theorem u1 : D1.fuse = none := by rw [D1_eq]; exact fu
theorem r1 : D1.safe = settleTo (fun _ => 1) (l2.pairs 1 1) D0.safe 1 := by rw [D1_eq]; exact fr
def D2 : Dk := D1.crash []
theorem crash_still (D : Dk) (h : D.waits = []) (p : List UInt8) : (D.crash p).safe = D.safe := by
  unfold Dk.crash Dk.settled
  rw [h]
  rfl
theorem D2_safe : D2.safe = D1.safe := crash_still D1 s3.waits []
theorem n2 : D2.safe.length = 10 := by rw [D2_safe]; exact n1
noncomputable def m : Wl := Wl.opened D2 1 8 1
theorem ring : ringOf (Wl.head 1 8 1) D2 8 = ring3 D1.safe 1 8 := by rw [ringOf_3 rfl, D2_safe]
theorem mOk : m.Ok := Wl.Ok.opened (by decide) (by decide) (by decide) (by decide) (by decide)
theorem msecs : m.secs = [[R, R]] := by
  refine Stands.secs_of ?_ (fun rs hrs => (mOk.sec rs hrs).2.1) fun rs hrs r hr => ?_
  · unfold m
    rw [Wl.opened_bodies, ring]
    exact s3.whole
  · simp at hrs; subst hrs; simp at hr; subst hr; exact .beg
theorem mfirst : m.first = 2 := by
  have h := congrArg List.length (Wl.opened_bodies D2 1 8 1)
  show 1 + (wholeP 0 1 (ringOf (Wl.head 1 8 1) D2 8)).length = 2
  rw [← h, List.length_map]
  rw [show (Wl.opened D2 1 8 1).secs = m.secs from rfl, msecs]
  rfl
theorem mepoch : m.epoch = 2 := by
  show epochOf (ringOf (Wl.head 1 8 1) D2 8) = 2
  rw [ring]
  have hle : ∀ (L : List Slab3), (∀ x ∈ L, x.1 ≤ 1) → epochOf L ≤ 2 := fun L => by
    refine snoc_ind (p := fun L => (∀ x ∈ L, x.1 ≤ 1) → epochOf L ≤ 2) (fun _ => by decide) (fun L x ih hx => ?_) L
    rw [epochOf_snoc]
    have := ih fun y hy => hx y (by simp [hy])
    have := hx x (by simp)
    omega
  have h1 : epochOf (ring3 D1.safe 1 8) ≤ 2 := hle _ s3.le
  have hsec : sec3 D1.safe 1 8 1 = (1, 1, bodyS [R, R]) := by
    unfold sec3
    have hb : l2.base + l2.size ≤ D0.safe.length := s2.room
    have := settle_sec l2 1 1 (fun _ => 1) D0.safe hb (by decide) (by decide) 1 (by decide) (by decide) 1 (by decide)
    rw [if_pos (by decide), if_pos rfl] at this
    rw [r1, show (settleTo (fun _ => 1) (l2.pairs 1 1) D0.safe 1).getD (1 + 1 % 8) zero128 = _ from this]
    exact packed_slab3 hE2 (by omega) (Stands.bodies ok2 0 (by decide)).1
  have h2 : (1, 1, bodyS [R, R]) ∈ ring3 D1.safe 1 8 := by
    rw [← hsec]
    exact List.mem_map.2 ⟨0, by simp, rfl⟩
  have h3 := epochOf_gt h2
  simp only at h3
  omega
theorem mscan : (m.scan 0).length = 2 := by
  unfold Wl.scan Wl.all
  rw [msecs, show m.low = 1 from rfl]
  simp only [Wl.allFrom, entsOf, layR]
  rfl
theorem mnext : m.openNo = 2 := by
  unfold Wl.openNo Wl.end_
  rw [msecs, mfirst]
  rfl
theorem fate0 : D1.crash [] = D2 := rfl
end Aw5

set_option maxRecDepth 100000 in
set_option maxHeartbeats 16000000 in
theorem awake5 (w : World) : Calls Try.prog 22 #[] w fun e w' => e = .returned (.bool true) ∧ Below w.heap.size w w' := by
  go_enter Try.func22, Try.ntmps22
  go_wp2_with fail
  refine (new_ok 10 w (by omega) (by omega)).mono ?_
  rintro e w1 ⟨gd, FD, rfl, hd, hFD, hb1⟩
  have HD := Lib.hid hd
  have HFD := Lib.hid hFD
  have HB1 := Lib.hid hb1
  clear hd hFD hb1
  go_wp2_with fail
  refine (LiveL.make HD.out HFD.out HB1.out 1 8 (by omega) (by omega) (by simp [Dk.new])).mono ?_
  rintro e w2 ⟨g, FL, rfl, hl⟩
  have L2 := Lib.hid hl
  clear hl HD HB1 HFD
  go_wp2_with fail
  refine (begin_any _).mono ?_
  rintro e w3 ⟨v3, rfl, hv3, hb3⟩
  have L3 := Lib.hid (L2.out.more hb3)
  have V3 := Lib.hid hv3
  clear L2 hb3 hv3
  go_wp2_with fail
  refine (L3.out.appendAs V3.out (May.fit .beg) Aw5.a1 128 0 rfl rfl).mono ?_
  rintro e w4 ⟨rfl, FL4, hl4, -⟩
  have L4 := Lib.hid hl4
  clear L3 V3 hl4
  go_wp2_with fail
  refine (begin_any _).mono ?_
  rintro e w5 ⟨v5, rfl, hv5, hb5⟩
  have L5 := Lib.hid (L4.out.more hb5)
  have V5 := Lib.hid hv5
  clear L4 hb5 hv5
  go_wp2_with fail
  refine (L5.out.appendAs V5.out (May.fit .beg) Aw5.a2 129 0 rfl rfl).mono ?_
  rintro e w6 ⟨rfl, FL6, hl6, -⟩
  have L6 := Lib.hid hl6
  clear L5 V5 hl6
  go_wp2_with fail
  refine (L6.out.flushAs Aw5.hE2 (Nat.zero_le _) rfl Aw5.f1 0 (by rw [show Dk.new 10 = Aw5.D0 from rfl, Aw5.f0]; rfl)).mono ?_
  rintro e w7 ⟨rfl, FD7, hl7, -⟩
  rw [show (Aw5.l2.flush (Dk.new 10)).1 = Aw5.D1 from rfl] at hl7
  have L7 := Lib.hid hl7
  clear L6 hl7
  go_wp2_with fail
  refine (begin_any _).mono ?_
  rintro e w8 ⟨v8, rfl, hv8, hb8⟩
  have L8 := Lib.hid (L7.out.more hb8)
  have V8 := Lib.hid hv8
  clear L7 hb8 hv8
  go_wp2_with fail
  refine (L8.out.appendAs V8.out (May.fit .beg) Aw5.a3 256 0 rfl rfl).mono ?_
  rintro e w9 ⟨rfl, FL9, hl9, -⟩
  have L9 := Lib.hid hl9
  clear L8 V8 hl9
  go_wp2_with fail
  refine (L9.out.crash (.slice none 0 0) [] (Reads.empty _ _ _) (fun h => absurd rfl h)).mono ?_
  rintro e w10 ⟨rfl, hl10, -⟩
  have L10 := Lib.hid (show LiveL w w10 FD7 FL9 g gd Aw5.D2 Aw5.l4 from hl10)
  clear L9 hl10
  go_wp2_with fail
  refine (L10.out.open_ rfl 1 8 1 (by omega) (by omega) (by rw [Aw5.n2]; omega) (by omega) (by omega)).mono ?_
  rintro e w11 ⟨gm, FM, rfl, hlm, -, hb11⟩
  have LM := Lib.hid hlm
  have L11 := Lib.hid (L10.out.more hb11)
  clear hlm hb11 L10
  go_wp2_with fail
  refine (scan_any LM.out.sys.log 0 (by decide)).mono ?_
  rintro e w12 ⟨v12, q12, rfl, hq12, ho12, hb12, -⟩
  obtain ⟨ra, rc, hv12⟩ := own_slice ho12.own
  have hlen : q12.length = 2 := by
    have h := congrArg List.length hq12
    rw [List.length_map] at h
    rw [h]
    exact Aw5.mscan
  rw [hlen] at hv12
  subst hv12
  have LM2 := Lib.hid (LM.out.more hb12)
  have L12 := Lib.hid (L11.out.more hb12)
  clear ho12 hq12 hb12 hlen LM L11
  go_wp2_with fail
  refine (epoch_any LM2.out.sys.log).mono ?_
  rintro e w13 ⟨rfl, rfl⟩
  rw [show (Wl.opened Aw5.D2 1 8 1).epoch = 2 from Aw5.mepoch]
  go_wp2_with fail
  refine (next_any LM2.out.sys.log).mono ?_
  rintro e w14 ⟨rfl, n14, rfl⟩
  rw [show (Wl.opened Aw5.D2 1 8 1).openNo = 2 from Aw5.mnext]
  have L14 := Lib.hid (L12.out.more (drewN_below w12 n14))
  clear LM2 L12
  go_wp2_with fail
  refine (safe_any L14.out.sys.log 129 (by omega) true (by decide)).mono ?_
  rintro e w15 ⟨rfl, rfl⟩
  go_wp2_with fail
  refine (safe_any L14.out.sys.log 256 (by omega) false (by decide)).mono ?_
  rintro e w16 ⟨rfl, rfl⟩
  have HL := Lib.hid L14.out.below
  clear L14
  go_wp2
  go_ret
  exact ⟨rfl, HL.out⟩
end Go.Proofs.Ytopihafmajadfaa

/- A log and its disk between calls; what an Append adds; plain mathematics. -/
namespace Go.Proofs.Ytopihafmajadfaa
open Go.RowKit

/-- A log at the sectors from 0 on of a disk with n sectors, with power, and no fuse. -/
structure Calm (D : Dk) (l : Wl) (n E : Nat) : Prop where
  ok : l.Ok
  stands : Stands D l
  fuse : D.fuse = none
  ep : l.epoch ≤ E
  base : l.base = 0
  size : l.size = n
  len : D.safe.length = n
namespace Calm
variable {D : Dk} {l : Wl} {n E : Nat}
theorem new (h8 : 8 ≤ n) (h64 : n ≤ 64) : Calm (Dk.new n) (Wl.new 0 n) n 1 :=
  ⟨Wl.Ok.new h8 h64 (by omega), Stands.new (by omega), rfl, Nat.le_refl _, rfl, rfl, by simp [Dk.new]⟩
theorem put (h : Calm D l n E) {r : Rc} (hm : May r) : Calm D (l.put r) n E := by
  have hs : (l.put r).base = l.base ∧ (l.put r).size = l.size ∧ (l.put r).epoch = l.epoch := by
    unfold Wl.put; split
    · exact ⟨rfl, rfl, rfl⟩
    · split <;> exact ⟨rfl, rfl, rfl⟩
  exact ⟨h.ok.put hm (lay_short hm), h.stands.put h.ok r, h.fuse, by rw [hs.2.2]; exact h.ep, by rw [hs.1]; exact h.base, by rw [hs.2.1]; exact h.size, h.len⟩
theorem app (h : Calm D l n E) (r : Rc) : Calm D (l.app r).2.2 n E := by
  by_cases hm : May r
  · rw [Wl.app_may hm]; exact h.put hm
  · rw [Wl.app_not hm]; exact h
theorem hep (h : Calm D l n E) (hE : E < 4294967296) : l.epoch < 4294967296 := Nat.lt_of_le_of_lt h.ep hE
theorem hw (h : Calm D l n E) : D.waits.length ≤ 1000000 := by rw [h.stands.waits]; exact Nat.zero_le _
theorem err (h : Calm D l n E) : (l.flush D).2.2 = 0 := h.stands.flush_ok h.ok h.fuse
theorem log (h : Calm D l n E) (hE : E < 4294967296) : (l.flush D).2.1 = { l with first := l.end_ } := (h.stands.flushed h.ok (h.hep hE) h.err).1
theorem flush (h : Calm D l n E) (hE : E < 4294967296) : Calm (l.flush D).1 (l.flush D).2.1 n E := by
  obtain ⟨h1, h2, h3, h4⟩ := h.stands.flushed h.ok (h.hep hE) h.err
  rw [h1]
  exact ⟨h.ok.flushed, h2, h3 h.fuse, h.ep, h.base, h.size, by rw [h4]; exact h.len⟩
end Calm
/-- A record that was taken. -/
theorem Wl.app_zero {l : Wl} {r : Rc} (h : (l.app r).2.1 = 0) : May r ∧ l.putE r = 0 ∧ (l.app r).1 = l.putAt r ∧ (l.app r).2.2 = l.put r := by
  by_cases hm : May r
  · rw [Wl.app_may hm] at h ⊢; exact ⟨hm, h, rfl, rfl⟩
  · rw [Wl.app_not hm] at h; cases h
/-- One that wasn't. -/
theorem Wl.app_same {l : Wl} {r : Rc} (h : (l.app r).2.1 ≠ 0) : (l.app r).2.2 = l := by
  by_cases hm : May r
  · rw [Wl.app_may hm] at h ⊢
    have h : l.putE r ≠ 0 := h
    show l.put r = l
    unfold Wl.putE at h
    unfold Wl.put
    split
    · rename_i hj; rw [if_pos hj] at h; exact absurd rfl h
    · rename_i hj
      rw [if_neg hj] at h
      split
      · rename_i hr; rw [if_pos hr] at h; exact absurd rfl h
      · rfl
  · rw [Wl.app_not hm]
/-- Where a record goes: in which sector, behind which ones. -/
theorem Wl.put_where {l : Wl} (ok : l.Ok) {r : Rc} (h : l.putE r = 0) : ∃ (s : Nat) (rs : List Rc), l.putAt r = s * 128 + (body rs).length ∧ (body rs).length ≤ 112 ∧ (∀ q ∈ rs, May q) ∧ l.low ≤ s ∧ l.first ≤ s ∧ s + 1 = (l.put r).end_ ∧
    (l.put r).low = l.low ∧ (l.put r).first = l.first ∧ (l.put r).secs.getD (s - l.low) [] = rs ++ [r] ∧ l.all = Wl.allFrom l.low (l.secs.take (s - l.low)) ++ entsOf ((s * 128 : Nat) : Int) rs ∧ s - l.low ≤ l.secs.length := by
  unfold Wl.putE at h
  unfold Wl.putAt Wl.put
  have hfl := ok.fl
  have hfe := ok.fe
  by_cases hj : l.joins r
  · rw [if_pos hj, if_pos hj]
    have hlt : 0 < l.secs.length := by have := hj.1; unfold Wl.end_ at *; omega
    obtain ⟨i, x, e⟩ := Wl.snoc_of hlt
    have hx := ok.sec x (by rw [e]; simp)
    have hf := hj.1
    unfold Wl.end_ at hf
    have hlen : l.secs.length = i.length + 1 := by rw [e]; simp
    refine ⟨l.low + i.length, x, ?_, hx.2.2, hx.2.1, by omega, by omega, ?_, rfl, rfl, ?_, ?_, ?_⟩
    · unfold Wl.end_; rw [hlen, e, Wl.lastD_snoc]; rfl
    · unfold Wl.end_; simp only [e, List.dropLast_concat, Wl.lastD_snoc, List.length_append, List.length_singleton]; omega
    · rw [Nat.add_sub_cancel_left]; simp only [e, List.dropLast_concat, Wl.lastD_snoc]; simp [List.getD_eq_getElem?_getD]
    · unfold Wl.all
      rw [Nat.add_sub_cancel_left, e, List.take_left, Wl.allFrom_app]
      simp [Wl.allFrom]
    · omega
  · rw [if_neg hj] at h ⊢
    rw [if_neg hj]
    by_cases hr : l.secs.length < l.size
    · rw [if_pos hr, if_pos hr]
      unfold Wl.end_ at hfe
      refine ⟨l.low + l.secs.length, [], ?_, by simp [body], fun q hq => by simp at hq, by omega, by omega, ?_, rfl, rfl, ?_, ?_, by omega⟩
      · unfold Wl.end_; simp [body]
      · unfold Wl.end_; simp; omega
      · rw [Nat.add_sub_cancel_left]; simp [List.getD_eq_getElem?_getD]
      · unfold Wl.all
        rw [Nat.add_sub_cancel_left, List.take_length]
        simp [entsOf]
    · rw [if_neg hr] at h; cases h
theorem Wl.allFrom_lt : ∀ (k : Nat) (s : List (List Rc)), (∀ rs ∈ s, (∀ r ∈ rs, May r) ∧ (body rs).length ≤ 112) → ∀ x ∈ Wl.allFrom k s, x.1 < (((k + s.length) * 128 : Nat) : Int)
  | _, [], _, x, h => by simp [Wl.allFrom] at h
  | k, rs :: s, hs, x, h => by
    rcases List.mem_append.1 h with h | h
    · have := entsOf_ge _ rs (hs rs (by simp)).1 x h
      have h2 := (hs rs (by simp)).2
      unfold body at h2
      simp only [List.length_cons]
      omega
    · have := Wl.allFrom_lt (k + 1) s (fun q hq => hs q (by simp [hq])) x h
      simp only [List.length_cons]
      omega
/-- A new record lies behind all others. -/
theorem Wl.put_gt {l : Wl} (ok : l.Ok) {r : Rc} (h : l.putE r = 0) : (∀ x ∈ l.all, x.1 < (l.putAt r : Int)) ∧ 128 ≤ l.putAt r ∧ l.putAt r ≤ 1099511627776 := by
  obtain ⟨s, rs, e1, e2, e3, e4, e5, e6, _, _, _, e7, e8⟩ := Wl.put_where ok h
  have hl := ok.l1
  refine ⟨fun x hx => ?_, by omega, ?_⟩
  · rw [e7] at hx
    rcases List.mem_append.1 hx with hx | hx
    · have := Wl.allFrom_lt l.low (l.secs.take (s - l.low)) (fun q hq => (ok.sec q (List.mem_of_mem_take hq)).2) x hx
      rw [List.length_take] at this
      omega
    · have := entsOf_ge _ rs e3 x hx
      unfold body at e1
      omega
  · have hlm := ok.lm
    have hlen := ok.len
    have h64 := ok.s64
    omega
/-- What was appended is read at its place. -/
theorem Wl.put_read {l : Wl} (ok : l.Ok) {r : Rc} (h : l.putE r = 0) : (l.put r).readAt (l.putAt r : Int) = (r, 0) := by
  obtain ⟨s, rs, e1, e2, e3, e4, e5, e6, f1, f2, f3, e7, e8⟩ := Wl.put_where ok h
  have hdiv : ((l.putAt r : Nat) : Int).tdiv 128 = (s : Int) := by
    rw [Int.tdiv_eq_ediv_of_nonneg (by omega)]
    omega
  have hent : (l.put r).entries (s : Int) = entsOf (((s : Nat) : Int) * 128) rs ++ [((l.putAt r : Int), r)] := by
    unfold Wl.entries
    rw [if_pos (by rw [f1]; omega), f1, Int.toNat_natCast, f3, entsOf_snoc]
    congr 3
    unfold body at e1
    omega
  unfold Wl.readAt
  rw [hdiv, hent, List.find?_append]
  have hn : (entsOf (((s : Nat) : Int) * 128) rs).find? (fun x => x.1 == (l.putAt r : Int)) = none := List.find?_eq_none.2 fun x hx => by
    have := entsOf_ge _ rs e3 x hx
    unfold body at e1
    simp only [beq_iff_eq]
    omega
  rw [hn]
  simp
/-- What a scan from a place on has more. -/
theorem Wl.put_scan {l : Wl} (ok : l.Ok) {r : Rc} (h : l.putE r = 0) (f : Int) : (l.put r).scan f = l.scan f ++ if f ≤ (l.putAt r : Int) then [((l.putAt r : Int), r)] else [] := by
  unfold Wl.scan
  rw [Wl.putAll h ok.fl, List.filter_append]
  congr 1
  by_cases hc : f ≤ (l.putAt r : Int)
  · rw [if_pos hc, List.filter_cons_of_pos (by simpa using hc)]; rfl
  · rw [if_neg hc, List.filter_cons_of_neg (by simpa using hc)]; rfl
end Go.Proofs.Ytopihafmajadfaa

/- Lists beside a log; careenlaw05.WalRises, walked. -/
namespace Go.Proofs.Ytopihafmajadfaa
open Go.RowKit

/-- An entry's rows lie in blocks of a time before. -/
def OldR (B : Nat) (r : Rc) (vt vp : Value) : Prop := (rows3 r.txns ≠ [] → ∀ b, vt.ownBlock = some b → b < B) ∧ (rows2 r.pages ≠ [] → ∀ b, vp.ownBlock = some b → b < B)
theorem Lists.old {w : World} {r : Rc} {vt vp : Value} (h : Lists w r vt vp) : OldR w.heap.size r vt vp := ⟨fun hr => h.t.blt hr, fun hr => h.p.blt hr⟩
/-- A list of entries of one's own, beside a footprint. -/
structure KeptE (w0 w : World) (F : Foot) (v : Value) (q : List Qe) : Prop where
  own : OwnE w w0.heap.size v q
  old : ∀ x ∈ q, OldR w0.heap.size x.r x.vt x.vp
  apart : ∀ b, v.ownBlock = some b → ¬ F b
theorem Step.only {F F' : Foot} {w w' : World} (h : Step F F' w w') : Only F w w' := ⟨h.os, h.tape, h.output, h.size, h.block⟩
namespace KeptE
variable {w0 w w' : World} {F F' : Foot} {v : Value} {q : List Qe}
theorem nil (w0 w : World) (F : Foot) : KeptE w0 w F (.slice none 0 0) [] := ⟨OwnE.nil w _, fun x hx => by simp at hx, fun b hb => by simp [Value.ownBlock] at hb⟩
theorem step (h : KeptE w0 w F v q) (hs : Step F F' w w') (hn : ∀ b, F b → w0.heap.size ≤ b) : KeptE w0 w' F' v q :=
  ⟨⟨own_keep h.own.own fun b hb => hs.block b (h.own.own.lt b hb).2 (h.apart b hb), fun x hx => (h.own.lists x hx).keepA hs.only (fun hr b hb hF => by have := (h.old x hx).1 hr b hb; have := hn b hF; omega) (fun hr b hb hF => by have := (h.old x hx).2 hr b hb; have := hn b hF; omega), h.own.apart⟩, h.old,
    fun b hb hF => (hs.foot b hF).elim (h.apart b hb) fun hg => by have := (h.own.own.lt b hb).2; omega⟩
theorem more (h : KeptE w0 w F v q) (hb : Below w.heap.size w w') : KeptE w0 w' F v q := ⟨h.own.keep hb, h.old, h.apart⟩
theorem foot (h : KeptE w0 w F v q) (hF : ∀ b, F' b → F b ∨ w.heap.size ≤ b) : KeptE w0 w F' v q := ⟨h.own, h.old, fun b hb hF' => (hF b hF').elim (h.apart b hb) fun hg => by have := (h.own.own.lt b hb).2; omega⟩
/-- One more entry. -/
theorem pushed {FD FL : Foot} {g gd : Nat} {D : Dk} {l : Wl} (h : KeptE w0 w (Both FD FL) v q) (L : LiveL w0 w FD FL g gd D l) {x : Qe} (hl : Lists w x.r x.vt x.vp) (hx : OldR w0.heap.size x.r x.vt x.vp) {gg cap : Nat} (ho : w'.ownsRow w0.heap.size 45 12 (.slice (some ⟨gg, 0, none⟩) (q.length + 1) cap) (q.length + 1) (entsV q ++ x.cells))
    (hg : w.grownBy w' v.ownBlock) (hat : v.ownBlock = some gg ∨ gg = w.heap.size) : LiveL w0 w' FD FL g gd D l ∧ KeptE w0 w' (Both FD FL) (.slice (some ⟨gg, 0, none⟩) (q.length + 1) cap) (q ++ [x]) := by
  have hon : Only (fun b => v.ownBlock = some b) w w' := (Only.refl _ w).grown hg fun b hb => .inl hb
  refine ⟨L.only hon (fun b hF hv => h.apart b hv hF) fun b hb => (h.own.own.lt b hb).1, h.own.pushed hl (fun b hb => ⟨fun hr hv => by have := hx.1 hr b hv; have := (h.own.own.lt b hb).1; omega, fun hr hv => by have := hx.2 hr b hv; have := (h.own.own.lt b hb).1; omega⟩) ho hg hat, fun y hy => ?_, fun b hb hF => ?_⟩
  · rcases List.mem_append.1 hy with hy | hy
    · exact h.old y hy
    · simp at hy; subst hy; exact hx
  · simp only [Value.ownBlock, Option.some.injEq] at hb
    subst hb
    rcases hat with hat | hat
    · exact h.apart _ hat hF
    · rcases hF with hF | hF
      · have := L.sys.disk.lt _ hF; omega
      · have := L.sys.log.lt _ hF; omega
end KeptE

/-- The state of WalRises behind some of its records. -/
structure RisesAt (w0 w : World) (g gd : Nat) (from_ : Int) (m : Nat) (last : Int) (vall : Value) : Prop where
  ex : ∃ (FD FL : Foot) (D : Dk) (l : Wl) (q : List Qe), LiveL w0 w FD FL g gd D l ∧ Calm D l 64 1 ∧ KeptE w0 w (Both FD FL) vall q ∧ q.map Qe.ent = l.scan from_ ∧ q.length ≤ m ∧ (last = 0 ∨ ∃ x ∈ l.all, x.1 = last)

set_option maxRecDepth 100000 in
set_option maxHeartbeats 8000000 in
theorem walRises_long (v : Value) (l : List Rc) (from_ : Int) (w : World) (hv : IsRecs w v l) (hl : 300 < l.length) :
    Calls Try.prog 6 #[v, .int .i64 from_] w fun e w' => e = .returned (.bool true) ∧ Below w.heap.size w w' := by
  obtain ⟨a, cap, rfl, h1, h2, _⟩ := hv
  have hm : (300 : Int) < l.length := by omega
  clear h1 h2 hl
  go_enter Try.func6, Try.ntmps6
  go_wp2_with fail
  refine (new_ok 64 w (by omega) (by omega)).mono ?_
  rintro e w1 ⟨gd, FD, rfl, hd, hFD, hb1⟩
  have HD := Lib.hid hd
  have HFD := Lib.hid hFD
  have HB1 := Lib.hid hb1
  clear hd hFD hb1
  go_wp2_with fail
  refine (LiveL.make HD.out HFD.out HB1.out 0 64 (by omega) (by omega) (by simp [Dk.new])).mono ?_
  rintro e w2 ⟨g, FL, rfl, hl⟩
  have L2 := Lib.hid hl.below
  clear hl HD HB1 HFD
  go_wp2_with fail
  refine (awake5 _).mono ?_
  rintro e w3 ⟨rfl, hb3⟩
  have HB3 := Lib.hid (below2 L2.out hb3)
  clear hb3 L2
  go_wp2_with fail
  refine (awake5 _).mono ?_
  rintro e w4 ⟨rfl, hb4⟩
  have HB4 := Lib.hid (below2 HB3.out hb4)
  clear hb4 HB3
  go_wp2
  go_ret
  exact ⟨rfl, HB4.out⟩

set_option maxRecDepth 100000 in
set_option maxHeartbeats 16000000 in
theorem walRises_some (v : Value) (l : List Rc) (from_ : Int) (w : World) (hv : IsRecs w v l) (hw : (Lit.int .i64 from_).wf = true) (hl : l.length ≤ 300) :
    Calls Try.prog 6 #[v, .int .i64 from_] w fun e w' => e = .returned (.bool true) ∧ Below w.heap.size w w' := by
  have HV := Lib.hid hv
  have HW := Lib.hid hw
  obtain ⟨a, cap, rfl, h1, h2, _⟩ := hv
  have hm : ¬ (300 : Int) < l.length := by omega
  have hm2 : (l.length : Int) ≤ 300 := by omega
  clear h1 h2 hw
  go_enter Try.func6, Try.ntmps6
  go_wp2_with fail
  refine (new_ok 64 w (by omega) (by omega)).mono ?_
  rintro e w1 ⟨gd, FD, rfl, hd, hFD, hb1⟩
  have HD := Lib.hid hd
  have HFD := Lib.hid hFD
  have HB1 := Lib.hid hb1
  clear hd hFD hb1
  go_wp2_with fail
  refine (LiveL.make HD.out HFD.out HB1.out 0 64 (by omega) (by omega) (by simp [Dk.new])).mono ?_
  rintro e w2 ⟨g, FL, rfl, hl2⟩
  have L2 := Lib.hid hl2
  clear hl2 HD HB1 HFD
  go_wp2_with fail
  refine (awake5 _).mono ?_
  rintro e w3 ⟨rfl, hb3⟩
  have L3 := Lib.hid (L2.out.more hb3)
  clear hb3 L2
  go_wp2_with fail
  have START : Hid (RisesAt w w3 g gd from_ 0 0 (.slice none 0 0)) := ⟨FD, FL, _, _, [], L3.out, Calm.new (by omega) (by omega), KeptE.nil _ _ _, rfl, Nat.le_refl _, .inl rfl⟩
  clear L3
  obtain ⟨i0, hi0, hz0, hz1, hz2⟩ := info_parts info_entry
  have HI := Lib.hid (And.intro hi0 (And.intro hz0 (And.intro hz1 hz2)))
  clear hi0 hz0 hz1 hz2
  go_loopw [9, 10, 44] (fun vs vw vk wr => ∃ (k : Nat) (last : Int), vk = .int .i64 k ∧ k ≤ l.length ∧ vs = .int .i64 last ∧ RisesAt w wr g gd from_ k last vw) (fun _ _ vk _ => l.length - (intOf vk).toNat)
  case atStart => exact ⟨0, 0, rfl, Nat.zero_le _, rfl, START.out⟩
  case round =>
    obtain ⟨k, last, rfl, hk, rfl, hst⟩ := hrel
    have ST := Lib.hid hst
    clear hst START
    by_cases hlt : k < l.length
    · obtain ⟨FD2, FL2, D, lg, q, hL, hC, hK, hq, hql, hlast⟩ := ST.out.ex
      have HL := Lib.hid hL
      have HC := Lib.hid hC
      have HK := Lib.hid hK
      have HQ := Lib.hid hq
      have HLAST := Lib.hid hlast
      have HB := Lib.hid hL.below
      clear hL hC hK hq hlast ST
      obtain ⟨b, off, cap', hva, _, _, hbw, hel⟩ := HV.out.at_ (by omega)
      cases hva
      obtain ⟨ta, tc, pa, pc, hls0, hsz, hc⟩ := hel k hlt
      have HLS := Lib.hid (hls0.keep HB.out)
      have HSZ := Lib.hid hsz
      have HOLD := Lib.hid hls0.old
      obtain ⟨c0, c1, c2, c3, c4, c5, c6, c7, c8, c9, c10⟩ := hc.keep HB.out
      clear hls0 hsz hel hc
      generalize l[k] = r at *
      have hn := Blk.new wr 26 (recCells .nil (.slice none 0 0) (.slice none 0 0))
      have N3 := hn.setRow (recCells r (.slice ta r.txns.length tc) (.slice pa r.pages.length pc))
      have hb3 : Below wr.heap.size wr ((wr.alloc (.cells (recCells .nil (.slice none 0 0) (.slice none 0 0)) 26)).setRow wr.heap.size (recCells r (.slice ta r.txns.length tc) (.slice pa r.pages.length pc))) := below_setRow ((Below.refl _ _).alloc (Nat.le_refl _) _) (Nat.le_refl _) _
      have HL3 := Lib.hid (HL.out.more hb3)
      have HK3 := Lib.hid (HK.out.more hb3)
      have HLS3 := Lib.hid (HLS.out.keep hb3)
      go_upto_region 10 with (refine wpList_store_row rfl 26 _ _ rfl wr.heap.size _ rfl rfl 26 _ hn (by kernel_rfl) rfl (by simp [recCells, Value.oneCell']) ?_)
      have hx0 : Hid (¬ Both FD2 FL2 wr.heap.size) := fun hF => hF.elim (fun h => by have := HL.out.sys.disk.lt _ h; omega) (fun h => by have := HL.out.sys.log.lt _ h; omega)
      clear hn hb3 c0 c1 c2 c3 c4 c5 c6 c7 c8 c9 c10 HLS HL HK HB hbw
      change Code.wp _ _ _ _ ((wr.alloc (.cells (recCells .nil (.slice none 0 0) (.slice none 0 0)) 26)).setRow wr.heap.size (recCells r (.slice ta r.txns.length tc) (.slice pa r.pages.length pc)))
      generalize (wr.alloc (.cells (recCells .nil (.slice none 0 0) (.slice none 0 0)) 26)).setRow wr.heap.size (recCells r (.slice ta r.txns.length tc) (.slice pa r.pages.length pc)) = w3 at *
      generalize wr.heap.size = x at *
      have IR : Hid (IsRec w3 (.agg (recCells r (.slice ta r.txns.length tc) (.slice pa r.pages.length pc))) r) := ⟨_, _, rfl, HLS3.out⟩
      by_cases hf : Fit r
      · have FEW := Lib.hid (few_yes IR.out hf)
        have HF := Lib.hid hf
        clear hf
        go_wp2_with (refine wpList_load_row rfl 26 _ rfl x rfl 26 _ (0, 0) _ N3 Try.underlying26 rfl (by kernel_rfl) ?_)
        refine FEW.out.mono ?_
        rintro e w4 ⟨rfl, hb4⟩
        have N4 := N3.keep hb4 N3.lt
        have HL4 := Lib.hid (HL3.out.more hb4)
        have HK4 := Lib.hid (HK3.out.more hb4)
        have HLS4 := Lib.hid (HLS3.out.keep hb4)
        have IR4 := Lib.hid (IR.out.keep hb4)
        clear hb4 N3 HL3 HK3 HLS3 IR FEW
        go_wp2_with (refine wpList_load_row rfl 26 _ rfl x rfl 26 _ (0, 0) _ N4 Try.underlying26 rfl (by kernel_rfl) ?_)
        refine (HL4.out.append IR4.out HF.out).mono ?_
        rintro e w5 ⟨rfl, FL5, hL5, st5⟩
        have N5 : Blk w5 x 26 (recCells r (.slice ta r.txns.length tc) (.slice pa r.pages.length pc)) := (st5.block x N4.lt hx0.out).trans N4
        have HK5 := Lib.hid (HK4.out.step st5 HL4.out.new)
        have HLS5 := Lib.hid (HLS4.out.keepA st5.only (fun hr b hb hF => by have := HOLD.out.1 hr b hb; have := HL4.out.new b hF; omega) (fun hr b hb hF => by have := HOLD.out.2 hr b hb; have := HL4.out.new b hF; omega))
        clear N4 HK4 HLS4 IR4 st5 hx0
        by_cases he : (lg.app r).2.1 = 0
        · obtain ⟨hmay, hpe, e1, e2⟩ := Wl.app_zero he
          have HL5 := Lib.hid hL5
          rw [e2] at HL5
          rw [he, e1]
          obtain ⟨g1, g2, g3⟩ := Wl.put_gt HC.out.ok hpe
          have HRD := Lib.hid (Wl.put_read HC.out.ok hpe)
          have HSC := Lib.hid (Wl.put_scan HC.out.ok hpe from_)
          have HC5 := Lib.hid (HC.out.put hmay)
          have HIN : Hid (∃ x ∈ (lg.put r).all, x.1 = (lg.putAt r : Int)) := ⟨((lg.putAt r : Int), r), by rw [Wl.putAll hpe HC.out.ok.fl]; simp, rfl⟩
          have hgt : last < (lg.putAt r : Int) := by
            rcases HLAST.out with rfl | ⟨y, hy, rfl⟩
            · omega
            · exact g1 y hy
          have hA1 : (lg.putAt r : Int) ≤ 1099511627776 := by omega
          have hA0 : (128 : Int) ≤ (lg.putAt r : Int) := by omega
          clear g1 g2 g3 he e1 e2 hL5 hpe HC HL4 HLAST hmay
          generalize lg.putAt r = A at *
          generalize lg.put r = l5 at *
          go_wp2_with fail
          refine (lread_any HL5.out.sys.log (A : Int) (by simp [Lit.wf, IntKind.min, IntKind.max, IntKind.signed, IntKind.bits]; omega)).mono ?_
          rintro e w6 ⟨v6, rfl, hv6, hb6⟩
          rw [HRD.out] at hv6 ⊢
          obtain ⟨vt6, vp6, rfl, hl6⟩ := hv6
          have one6 := hl6.one
          have N6 := N5.keep hb6 N5.lt
          have HL6 := Lib.hid (HL5.out.more hb6)
          have HK6 := Lib.hid (HK5.out.more hb6)
          have HLS6 := Lib.hid (HLS5.out.keep hb6)
          have HL6b := Lib.hid hl6
          clear hb6 N5 HL5 HK5 HLS5 hl6
          have hn7 := Blk.new w6 26 (recCells .nil (.slice none 0 0) (.slice none 0 0))
          have hb7 : Below w6.heap.size w6 ((w6.alloc (.cells (recCells .nil (.slice none 0 0) (.slice none 0 0)) 26)).setRow w6.heap.size (recCells r vt6 vp6)) := below_setRow ((Below.refl _ _).alloc (Nat.le_refl _) _) (Nat.le_refl _) _
          have N7 := N6.keep hb7 N6.lt
          have M7 := hn7.setRow (recCells r vt6 vp6)
          have HL7 := Lib.hid (HL6.out.more hb7)
          have HK7 := Lib.hid (HK6.out.more hb7)
          have HLS7 := Lib.hid (HLS6.out.keep hb7)
          have HV7 := Lib.hid (HL6b.out.keep hb7)
          go_upto_region 15 with (refine wpList_store_row rfl 26 _ _ rfl w6.heap.size _ rfl rfl 26 _ hn7 (by kernel_rfl) rfl one6 ?_)
          clear hn7 hb7 N6 HL6 HK6 HLS6 HL6b one6
          change Code.wp _ _ _ _ ((w6.alloc (.cells (recCells .nil (.slice none 0 0) (.slice none 0 0)) 26)).setRow w6.heap.size (recCells r vt6 vp6))
          generalize (w6.alloc (.cells (recCells .nil (.slice none 0 0) (.slice none 0 0)) 26)).setRow w6.heap.size (recCells r vt6 vp6) = w7 at *
          generalize w6.heap.size = x7 at *
          have SAME := Lib.hid (refSame_any (w := w7) ⟨vt6, vp6, rfl, HV7.out⟩ ⟨_, _, rfl, HLS7.out⟩ true (by simp))
          unfold recV at SAME
          have hle : ¬ (A : Int) ≤ last := by omega
          have hle2 : decide ((A : Int) ≤ last) = false := decide_eq_false hle
          go_wp2_with (first
            | (refine wpList_load_rowG rfl 26 _ rfl x7 rfl 26 _ (0, 0) _ M7 Try.underlying26 rfl (by kernel_rfl) ?_)
            | (refine wpList_load_rowG rfl 26 _ rfl x rfl 26 _ (0, 0) _ N7 Try.underlying26 rfl (by kernel_rfl) ?_))
          refine SAME.out.mono ?_
          rintro e w8 ⟨rfl, hb8⟩
          have N8 := N7.keep hb8 N7.lt
          have HL8 := Lib.hid (HL7.out.more hb8)
          have HK8 := Lib.hid (HK7.out.more hb8)
          have HLS8 := Lib.hid (HLS7.out.keep hb8)
          clear hb8 N7 M7 HL7 HK7 HLS7 HV7 SAME
          go_upto_if 82 with fail
          go_cut [10, 44] (fun s10 s44 wx => s44 = .int .i64 k ∧ RisesAt w wx g gd from_ (k + 1) A s10)
          case first =>
            by_cases hge : from_ ≤ (A : Int)
            · have hge2 : decide (from_ ≤ (A : Int)) = true := decide_eq_true hge
              have hsc := HSC.out
              rw [if_pos hge] at hsc
              have HSC2 := Lib.hid hsc
              clear hsc HSC
              unfold recCells at N8
              obtain ⟨hi0, hz0, hz1, hz2⟩ := id HI.out
              have B9 : Below w8.heap.size w8 (w8.alloc (.cells (Qe.cells ⟨A, r, .slice ta r.txns.length tc, .slice pa r.pages.length pc⟩).toArray 45)) := (Below.refl _ _).alloc (Nat.le_refl _) _
              have HL9 := Lib.hid (HL8.out.more B9)
              have HK9 := Lib.hid (HK8.out.more B9)
              have HLS9 := Lib.hid (HLS8.out.keep B9)
              have hq9 := HL9.out.below.size
              clear B9 HL8 HK8 HLS8
              go_wp2_with (first
                | (refine wpList_load_row rfl 26 _ rfl x rfl 26 _ (0, 0) _ N8 Try.underlying26 rfl (by kernel_rfl) ?_)
                | (at_builtin; refine wpList_append_lies _ rfl (.tmp 83) (.tmp 87) 32 rfl w.heap.size 45 i0 entryZero 12 144 Try.underlying32 hi0 hz0 hz1 hz2 rfl (by decide) _ _ _ rfl HK9.out.own.own ⟨w8.heap.size, 0, none⟩ 1 1 (Qe.cells ⟨A, r, .slice ta r.txns.length tc, .slice pa r.pages.length pc⟩) rfl rfl (World.news_of_block (heap_alloc_new w8 _)) (by simp [Qe.cells, recCells, Value.oneCell']) (by omega) (by simp only [maxLen]; omega) (by omega) hq9 _ rfl ?_))
              intro gg cap'' w10 hown hgrow hat hlt10
              have HP := Lib.hid (HK9.out.pushed HL9.out HLS9.out HOLD.out hown hgrow (by rw [World.size_alloc]; exact hat))
              clear hown hgrow hat HL9 HK9 HLS9
              go_wp2_with fail
              go_meet
              exact ⟨rfl, FD2, FL5, D, l5, _, HP.out.1, HC5.out, HP.out.2, by rw [List.map_append, HQ.out, HSC2.out]; rfl, by rw [List.length_append, List.length_singleton]; omega, .inr HIN.out⟩
            · have hge2 : decide (from_ ≤ (A : Int)) = false := decide_eq_false hge
              have hsc := HSC.out
              rw [if_neg hge, List.append_nil] at hsc
              have HSC2 := Lib.hid hsc
              clear hsc HSC
              go_wp2_with fail
              go_meet
              exact ⟨rfl, FD2, FL5, D, l5, q, HL8.out, HC5.out, HK8.out, by rw [HSC2.out]; exact HQ.out, by omega, .inr HIN.out⟩
          case rest =>
            obtain ⟨rfl, hst⟩ := hcut
            have ST := Lib.hid hst
            clear hst N8 HL8 HK8 HLS8 HSC HC5 HQ HIN HRD
            by_cases h5 : (k : Int) % 5 = 4
            · obtain ⟨FD6, FL6, D6, l6, q6, hL6, hC6, hK6, hq6, hql6, hlast6⟩ := ST.out.ex
              have hfl := hC6.log (by omega)
              have hC7 := Lib.hid (hC6.flush (by omega))
              have FLU := Lib.hid (hL6.flush (hC6.hep (by omega)) hC6.hw)
              have HK6 := Lib.hid hK6
              have HNEW := Lib.hid hL6.new
              have HQ6 := Lib.hid (show q6.map Qe.ent = (l6.flush D6).2.1.scan from_ by rw [hfl]; exact hq6)
              have HLAST6 := Lib.hid (show (A : Int) = 0 ∨ ∃ x ∈ (l6.flush D6).2.1.all, x.1 = (A : Int) by rw [hfl]; exact hlast6)
              clear hL6 hC6 hK6 hq6 hlast6 hfl ST
              go_wp2_with fail
              refine FLU.out.mono ?_
              rintro e w10 ⟨rfl, FD7, hL7, st7⟩
              have FIN := Lib.hid (show RisesAt w w10 g gd from_ (k + 1) A _ from ⟨FD7, FL6, _, _, q6, hL7, hC7.out, HK6.out.step st7 HNEW.out, HQ6.out, hql6, HLAST6.out⟩)
              clear hL7 st7 FLU HK6 HQ6 HLAST6 hC7 HNEW
              go_wp2_with fail
              go_roundw
              case rel => exact ⟨k + 1, A, by go_num, by omega, rfl, FIN.out⟩
              case measure => simp [intOf]; omega
            · go_wp2_with fail
              go_roundw
              case rel => exact ⟨k + 1, A, by go_num, by omega, rfl, ST.out⟩
              case measure => simp [intOf]; omega
        · have hsame := Wl.app_same he
          rw [hsame] at hL5
          have he2 : ((lg.app r).2.1 : Int) ≠ 0 := by omega
          have he3 : (((lg.app r).2.1 : Int) == 0) = false := by simpa using he2
          have ST2 : Hid (RisesAt w w5 g gd from_ (k + 1) last u10) := ⟨FD2, FL5, D, lg, q, hL5, HC.out, HK5.out, HQ.out, by omega, HLAST.out⟩
          clear hL5 HK5 HLS5 N5 HC HQ HLAST HL4
          generalize (lg.app r).2.1 = er at *
          generalize (lg.app r).1 = at5 at *
          go_wp2_with fail
          go_roundw
          case rel => exact ⟨k + 1, last, by go_num, by omega, rfl, ST2.out⟩
          case measure => simp [intOf]; omega
      · have FEW := Lib.hid (few_no IR.out HSZ.out hf)
        clear hf
        go_wp2_with (refine wpList_load_row rfl 26 _ rfl x rfl 26 _ (0, 0) _ N3 Try.underlying26 rfl (by kernel_rfl) ?_)
        refine FEW.out.mono ?_
        rintro e w4 ⟨rfl, hb4⟩
        have HB4 := Lib.hid (HL3.out.more hb4).below
        clear hb4 N3 HL3 HK3 HLS3 IR FEW
        go_wp2
        go_ret
        exact ⟨rfl, HB4.out⟩
    · obtain rfl : k = l.length := by omega
      obtain ⟨FD2, FL2, D, lg, q, hL, hC, hK, hq, hql, hlast⟩ := ST.out.ex
      have HL := Lib.hid hL
      have HK := Lib.hid hK
      have HQ := Lib.hid hq
      clear hL hC hK hq hlast ST
      go_wp2_with fail
      refine (scan_any HL.out.sys.log from_ HW.out).mono ?_
      rintro e w5 ⟨v5, q5, rfl, hq5, ho5, hb5, -⟩
      have E1 := Lib.hid (ho5.isEnts)
      rw [hq5] at E1
      have E2 := Lib.hid ((HK.out.more hb5).own.isEnts)
      rw [HQ.out] at E2
      have HB5 := Lib.hid (HL.out.more hb5).below
      clear ho5 hb5 hq5 HL HK HQ
      go_wp2_with fail
      refine (refSameAll_any E1.out E2.out true (by simp)).mono ?_
      rintro e w6 ⟨rfl, hb6⟩
      have HB6 := Lib.hid (HB5.out.trans (hb6.mono HB5.out.size))
      clear hb6
      go_wp2
      go_ret
      exact ⟨rfl, HB6.out⟩
theorem walkWalRises (v : Value) (l : List Rc) (from_ : Int) (w : World) (hv : IsRecs w v l) (hw : (Lit.int .i64 from_).wf = true) :
    Calls Try.prog 6 #[v, .int .i64 from_] w fun e w' => e = .returned (.bool true) ∧ Below w.heap.size w w' := by
  by_cases hl : l.length ≤ 300
  · exact walRises_some v l from_ w hv hw hl
  · exact walRises_long v l from_ w hv (by omega)
end Go.Proofs.Ytopihafmajadfaa
