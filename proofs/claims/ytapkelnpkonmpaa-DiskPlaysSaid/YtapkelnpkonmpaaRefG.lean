/- The program's disk and the document's, beside an operation that came in. -/
import Derived.Test.YtapkelnpkonmpaaRefF
namespace Go.Proofs.Ytapkelnpkonmpaa
open Go.RowKit

/-- So many sectors; at most so many writes wait. -/
def Fit (d : Dk) (n j : Nat) : Prop := d.safe.length = n ∧ d.waits.length ≤ j
namespace Fit
variable {d : Dk} {n j : Nat}
theorem mono (h : Fit d n j) : Fit d n (j + 1) := ⟨h.1, Nat.le_succ_of_le h.2⟩
theorem burn (h : Fit d n j) : Fit d.burn n j := ⟨by rw [Dk.burn_safe]; exact h.1, by rw [Dk.burn_waits]; exact h.2⟩
theorem write (h : Fit d n j) (i : Int) (s : ByteArray) : Fit (d.write i s) n (j + 1) := by
  unfold Dk.write
  split
  · split
    · split
      · refine ⟨h.burn.1, ?_⟩
        have := h.2
        simp
        omega
      · exact h.burn.mono
    · exact h.mono
  · exact h.mono
theorem settled (h : Fit d n j) (f : Nat → Nat) : (d.settled f).length = n := by unfold Dk.settled; rw [settleTo_len]; exact h.1
theorem sync (h : Fit d n j) : Fit d.sync n (j + 1) := by
  unfold Dk.sync
  split
  · exact ⟨h.settled _, Nat.zero_le _⟩
  · exact h.burn.mono
theorem crash (h : Fit d n j) (p : List UInt8) : Fit (d.crash p) n (j + 1) := ⟨h.settled _, Nat.zero_le _⟩
theorem arm (h : Fit d n j) (k : Int) : Fit (d.arm k) n (j + 1) := h.mono
theorem lose (h : Fit d n j) (i : Int) : Fit (d.lose i) n (j + 1) := by
  unfold Dk.lose
  split
  · exact ⟨by rw [List.length_set]; exact h.1, Nat.le_succ_of_le (Nat.le_trans (List.length_filter_le ..) h.2)⟩
  · exact h.mono
end Fit

/-- Both, made since w0, apart. -/
structure Pair (w0 w : World) (F : Foot) (g : Nat) (d : Dk) (F2 : Foot) (g2 : Nat) (d2 : Dk) : Prop where
  below : Below w0.heap.size w0 w
  disk : IsDisk w F g d
  ref : IsRef w F2 g2 d2
  new : ∀ b, F b → w0.heap.size ≤ b
  new2 : ∀ b, F2 b → w0.heap.size ≤ b
  apart : ∀ b, F b → ¬ F2 b
  ok2 : d2.Ok
namespace Pair
variable {w0 w w' : World} {F F' F2 F2' Fc : Foot} {g g2 c : Nat} {d d' d2 d2' : Dk}
theorem more (h : Pair w0 w F g d F2 g2 d2) (hb : Below w.heap.size w w') : Pair w0 w' F g d F2 g2 d2 :=
  ⟨h.below.trans (hb.mono h.below.size), h.disk.below hb, h.ref.below hb, h.new, h.new2, h.apart, h.ok2⟩
theorem drew (h : Pair w0 w F g d F2 g2 d2) : Pair w0 w.drew F g d F2 g2 d2 := ⟨h.below.drew, h.disk.drew, h.ref.keep (fun _ _ => rfl) (Nat.le_refl _), h.new, h.new2, h.apart, h.ok2⟩
theorem stepA (h : Pair w0 w F g d F2 g2 d2) (hd : IsDisk w' F' g d') (hs : Step F F' w w') : Pair w0 w' F' g d' F2 g2 d2 :=
  ⟨hs.belowB h.new h.below h.below.size, hd, h.ref.keep (fun b hb => hs.block b (h.ref.lt b hb) fun hF => h.apart b hF hb) hs.size, hs.from_ h.new h.below.size, h.new2,
   fun b hb h2 => (hs.foot b hb).elim (fun hF => h.apart b hF h2) (fun hg => by have := h.ref.lt b h2; omega), h.ok2⟩
theorem stepB (h : Pair w0 w F g d F2 g2 d2) (hd : IsRef w' F2' g2 d2') (ho : d2'.Ok) (hs : Step F2 F2' w w') : Pair w0 w' F g d F2' g2 d2' :=
  ⟨hs.belowB h.new2 h.below h.below.size, (h.disk.apart hs h.apart).1, hd, h.new, hs.from_ h.new2 h.below.size, (h.disk.apart hs h.apart).2, ho⟩
end Pair
/-- And a block that is of neither. -/
structure Trio (w0 w : World) (F : Foot) (g : Nat) (d : Dk) (F2 : Foot) (g2 : Nat) (d2 : Dk) (x : Nat) (cs : Array Value) : Prop where
  pair : Pair w0 w F g d F2 g2 d2
  box : Blk w x 33 cs
  xF : ¬ F x
  xF2 : ¬ F2 x
namespace Trio
variable {w0 w w' w1 : World} {F F' F2 F2' Fc : Foot} {g g2 c x : Nat} {d d' d2 d2' : Dk} {cs : Array Value}
theorem make (h : Pair w0 w F g d F2 g2 d2) : Trio w0 (w.alloc (.cells cs 33)) F g d F2 g2 d2 w.heap.size cs :=
  ⟨h.more ((Below.refl _ _).alloc (Nat.le_refl _) _), Blk.new _ _ _, fun hF => by have := h.disk.lt _ hF; omega, fun hF => by have := h.ref.lt _ hF; omega⟩
theorem more (h : Trio w0 w F g d F2 g2 d2 x cs) (hb : Below w.heap.size w w') : Trio w0 w' F g d F2 g2 d2 x cs := ⟨h.pair.more hb, h.box.keep hb h.box.lt, h.xF, h.xF2⟩
theorem drew (h : Trio w0 w F g d F2 g2 d2 x cs) : Trio w0 w.drew F g d F2 g2 d2 x cs := ⟨h.pair.drew, h.box, h.xF, h.xF2⟩
theorem stepA (h : Trio w0 w F g d F2 g2 d2 x cs) (hd : IsDisk w' F' g d') (hs : Step F F' w w') : Trio w0 w' F' g d' F2 g2 d2 x cs :=
  ⟨h.pair.stepA hd hs, (hs.block x h.box.lt h.xF).trans h.box, fun hx => (hs.foot x hx).elim h.xF (fun hg => by have := h.box.lt; omega), h.xF2⟩
theorem stepB (h : Trio w0 w F g d F2 g2 d2 x cs) (hd : IsRef w' F2' g2 d2') (ho : d2'.Ok) (hs : Step F2 F2' w w') : Trio w0 w' F g d F2' g2 d2' x cs :=
  ⟨h.pair.stepB hd ho hs, (hs.block x h.box.lt h.xF2).trans h.box, h.xF, fun hx => (hs.foot x hx).elim h.xF2 (fun hg => by have := h.box.lt; omega)⟩
/-- Something apart from both was written. -/
theorem away (h : Trio w0 w Fc c d F2 g2 d2 x cs) (hs : Step F F' w w') (hn : ∀ b, F b → w0.heap.size ≤ b) (a1 : ∀ b, Fc b → ¬ F b) (a2 : ∀ b, F2 b → ¬ F b) (a3 : ¬ F x) : Trio w0 w' Fc c d F2 g2 d2 x cs :=
  ⟨⟨hs.belowB hn h.pair.below h.pair.below.size, (h.pair.disk.apart hs a1).1, h.pair.ref.keep (fun b hb => hs.block b (h.pair.ref.lt b hb) (a2 b hb)) hs.size, h.pair.new, h.pair.new2, h.pair.apart, h.pair.ok2⟩,
   (hs.block x h.box.lt a3).trans h.box, h.xF, h.xF2⟩
theorem write1 (h : Trio w0 w F g d F2 g2 d2 x cs) (i : Int) (s : ByteArray) (hl : d.waits.length < 16777216) (e0 : Nat) (he : d.writeE i s = e0) (hd : d.write i s = d') :
    Calls Try.prog 14 #[.pointer (some ⟨g, 0, none⟩), .int .i64 i, .string s] w fun e w' => e = .returned (.int .i64 e0) ∧ ∃ F', Trio w0 w' F' g d' F2 g2 d2 x cs := by
  subst he; subst hd
  exact (write_any h.pair.disk i s hl).mono fun e w' ⟨he, F', k1, k2⟩ => ⟨he, F', h.stepA k1 k2⟩
theorem write2 (h : Trio w0 w F g d F2 g2 d2 x cs) (i : Int) (s : ByteArray) (hl : d2.waits.length < 16777216) (e0 : Nat) (he : d2.writeE i s = e0) (hd : d2.write i s = d2') :
    Calls Try.prog 15 #[.pointer (some ⟨g2, 0, none⟩), .int .i64 i, .string s] w fun e w' => e = .returned (.int .i64 e0) ∧ ∃ F', Trio w0 w' F g d F' g2 d2' x cs := by
  subst he; subst hd
  exact (refWrite_any h.pair.ok2 h.pair.ref i s hl).mono fun e w' ⟨he, F', k1, k2⟩ => ⟨he, F', h.stepB k1 (h.pair.ok2.write i s) k2⟩
theorem sync1 (h : Trio w0 w F g d F2 g2 d2 x cs) (e0 : Nat) (he : d.syncE = e0) (hd : d.sync = d') :
    Calls Try.prog 16 #[.pointer (some ⟨g, 0, none⟩)] w fun e w' => e = .returned (.int .i64 e0) ∧ ∃ F', Trio w0 w' F' g d' F2 g2 d2 x cs := by
  subst he; subst hd
  exact (sync_any h.pair.disk).mono fun e w' ⟨he, k1, k2⟩ => ⟨he, F, h.stepA k1 k2⟩
theorem sync2 (h : Trio w0 w F g d F2 g2 d2 x cs) (e0 : Nat) (he : d2.syncE = e0) (hd : d2.sync = d2') :
    Calls Try.prog 17 #[.pointer (some ⟨g2, 0, none⟩)] w fun e w' => e = .returned (.int .i64 e0) ∧ ∃ F', Trio w0 w' F g d F' g2 d2' x cs := by
  subst he; subst hd
  exact (refSync_any h.pair.ok2 h.pair.ref).mono fun e w' ⟨he, k1, k2⟩ => ⟨he, F2, h.stepB k1 h.pair.ok2.sync k2⟩
theorem lose1 (h : Trio w0 w F g d F2 g2 d2 x cs) (i : Int) (e0 : Nat) (he : d.reachE i = e0) (hd : d.lose i = d') :
    Calls Try.prog 21 #[.pointer (some ⟨g, 0, none⟩), .int .i64 i] w fun e w' => e = .returned (.int .i64 e0) ∧ ∃ F', Trio w0 w' F' g d' F2 g2 d2 x cs := by
  subst he; subst hd
  exact (lose_any h.pair.disk i).mono fun e w' ⟨he, k1, k2⟩ => ⟨he, F, h.stepA k1 k2⟩
theorem lose2 (h : Trio w0 w F g d F2 g2 d2 x cs) (i : Int) (hl : d2.waits.length < 16777216) (e0 : Nat) (he : d2.reachE i = e0) (hd : d2.lose i = d2') :
    Calls Try.prog 22 #[.pointer (some ⟨g2, 0, none⟩), .int .i64 i] w fun e w' => e = .returned (.int .i64 e0) ∧ ∃ F', Trio w0 w' F g d F' g2 d2' x cs := by
  subst he; subst hd
  exact (refLose_any h.pair.ok2 h.pair.ref i hl).mono fun e w' ⟨he, F', k1, k2⟩ => ⟨he, F', h.stepB k1 (h.pair.ok2.lose i) k2⟩
theorem crash1 (h : Trio w0 w F g d F2 g2 d2 x cs) (v : Value) (p : List UInt8) (hr : Reads w v (byteVs p)) (hv : p ≠ [] → ∀ b, v.ownBlock = some b → ¬ F b) (hd : d.crash p = d') :
    Calls Try.prog 19 #[.pointer (some ⟨g, 0, none⟩), v] w fun e w' => e = .returned (.tuple #[]) ∧ ∃ F', Trio w0 w' F' g d' F2 g2 d2 x cs := by
  subst hd
  exact (crash_any h.pair.disk v p hr hv).mono fun e w' ⟨he, k1, k2⟩ => ⟨he, F, h.stepA k1 k2⟩
theorem crash2 (h : Trio w0 w F g d F2 g2 d2 x cs) (v : Value) (p : List UInt8) (hr : Reads w v (byteVs p)) (hv : p ≠ [] → ∀ b, v.ownBlock = some b → ¬ F2 b) (hd : d2.crash p = d2') :
    Calls Try.prog 20 #[.pointer (some ⟨g2, 0, none⟩), v] w fun e w' => e = .returned (.tuple #[]) ∧ ∃ F', Trio w0 w' F g d F' g2 d2' x cs := by
  subst hd
  exact (refCrash_any h.pair.ok2 h.pair.ref v p hr hv).mono fun e w' ⟨he, k1, k2⟩ => ⟨he, F2, h.stepB k1 (h.pair.ok2.crash p) k2⟩
theorem arm1 (h : Trio w0 w F g d F2 g2 d2 x cs) (k : Int) (hk : k < 9223372036854775808) (hd : d.arm k = d') :
    Calls Try.prog 18 #[.pointer (some ⟨g, 0, none⟩), .int .i64 k] w fun e w' => e = .returned (.tuple #[]) ∧ ∃ F', Trio w0 w' F' g d' F2 g2 d2 x cs := by
  subst hd
  exact (arm_any h.pair.disk k hk).mono fun e w' ⟨he, k1, k2⟩ => ⟨he, F, h.stepA k1 k2⟩
/-- The document's fuse is set. -/
theorem arm2 (h : Trio w0 w F g d F2 g2 d2 x cs) (k : Int) (hk : k < 9223372036854775808) : (∃ u, w.cell? ⟨g2, 3, none⟩ = some u) ∧ w.frozen? ⟨g2, 3, none⟩ = false ∧
    Trio w0 (w.setCell ⟨g2, 3, none⟩ (.int .i64 (if 0 ≤ k then k else -1))) F g d F2 g2 (d2.arm k) x cs := by
  obtain ⟨vs, vq, r⟩ := id h.pair.ref
  obtain ⟨_, _, _, c3⟩ := r.cells
  refine ⟨⟨_, c3⟩, r.frozen 3, h.stepB ⟨vs, vq, ?_⟩ (h.pair.ok2.arm k hk) ((Step.refl F2 w).set (p := ⟨g2, 3, none⟩) r.fg _)⟩
  have := r.set1 3 (.int .i64 (if 0 ≤ k then k else -1)) (gone := d2.gone) (k := if 0 ≤ k then some k.toNat else none) (by
    by_cases h0 : 0 ≤ k
    · simp [refCells, refFuse, h0]; omega
    · simp [refCells, refFuse, h0])
  exact this
/-- A copy takes the disk's place; the elder one is written to. -/
theorem other (h : Trio w0 w F g d F2 g2 d2 x cs) (hc : IsDisk w1 Fc c d') (hF : ∀ b, Fc b → w.heap.size ≤ b) (hb : Below w.heap.size w w1) : Trio w0 w1 Fc c d' F2 g2 d2 x cs ∧ Trio w0 w1 F g d F2 g2 d2 x cs ∧ ∀ b, Fc b → ¬ F b := by
  have hm := h.more hb
  refine ⟨⟨⟨hm.pair.below, hc, hm.pair.ref, fun b k => Nat.le_trans h.pair.below.size (hF b k), h.pair.new2, fun b k k2 => by have := hF b k; have := h.pair.ref.lt b k2; omega, h.pair.ok2⟩, hm.box, fun k => by have := hF x k; have := h.box.lt; omega, h.xF2⟩, hm, fun b k k2 => ?_⟩
  have := hF b k
  have := h.pair.disk.lt b k2
  omega
end Trio
end Go.Proofs.Ytapkelnpkonmpaa
