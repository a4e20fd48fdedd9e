/- Package disk: what a disk is in memory; the small calls. -/
import Derived.Test.YtbjpnkjddfpmpaaFoot
import Derived.Test.YtbjpnkjddfpmpaaDk
import Derived.Test.YtbjpnkjddfpmpaaClone
namespace Go.Proofs.Ytbjpnkjddfpmpaa
open Go.RowKit

def strsV (l : List ByteArray) : List Value := l.map Value.string
def writeCells (x : Nat × ByteArray) : List Value := [.int .i64 x.1, .string x.2]
def waitsV (l : List (Nat × ByteArray)) : List Value := l.flatMap writeCells
def writeV (i : Int) (s : ByteArray) : Value := .agg #[.int .i64 i, .string s]
def lastV (l : List (Nat × ByteArray)) (i : Int) : Option Value := (lastOf l i).map (writeV i)
def diskCells (vs vq : Value) (m : Nat) (gone armed : Bool) (fuse : Int) : Array Value := #[vs, vq, .map (some m), .bool gone, .bool armed, .int .i64 fuse]
def fuseOf (f : Option Nat) : Int := ((f.getD 0 : Nat) : Int)
theorem strsV_len (l : List ByteArray) : (strsV l).length = l.length := by simp [strsV]
theorem waitsV_len (l : List (Nat × ByteArray)) : (waitsV l).length = l.length * 2 := by
  induction l with
  | nil => rfl
  | cons x l ih => simp [waitsV, writeCells] at ih ⊢; omega
theorem waitsV_snoc (l : List (Nat × ByteArray)) (x : Nat × ByteArray) : waitsV (l ++ [x]) = waitsV l ++ writeCells x := by simp [waitsV]
theorem waitsV_at (l : List (Nat × ByteArray)) (k : Nat) (h : k < l.length) : (waitsV l)[k * 2]? = some (.int .i64 l[k].1) ∧ (waitsV l)[k * 2 + 1]? = some (.string l[k].2) := by
  induction l generalizing k with
  | nil => simp at h
  | cons x l ih =>
    have e : waitsV (x :: l) = .int .i64 x.1 :: .string x.2 :: waitsV l := rfl
    rw [e]
    cases k with
    | zero => exact ⟨rfl, rfl⟩
    | succ k =>
      have := ih k (by simpa using h)
      rw [show (k + 1) * 2 = k * 2 + 1 + 1 from by omega]
      simpa using this

/-- A disk's blocks; what its map holds. -/
structure RawF (w : World) (F : Foot) (g : Nat) (d : Dk) (f : Int → Option Value) (vs vq : Value) (m : Nat) : Prop where
  head : Blk w g 56 (diskCells vs vq m d.gone d.fuse.isSome (fuseOf d.fuse))
  safe : w.ownsRow 0 9 1 vs d.safe.length (strsV d.safe)
  wait : w.ownsRow 0 69 2 vq d.waits.length (waitsV d.waits)
  last : IsMap w m f
  fg : F g
  fm : F m
  fs : ∀ b, vs.ownBlock = some b → F b
  fq : ∀ b, vq.ownBlock = some b → F b
  lt : ∀ b, F b → b < w.heap.size
abbrev Raw (w : World) (F : Foot) (g : Nat) (d : Dk) (vs vq : Value) (m : Nat) : Prop := RawF w F g d (lastV d.waits) vs vq m
/-- The disk at block g, with the footprint F, is d. -/
def IsDisk (w : World) (F : Foot) (g : Nat) (d : Dk) : Prop := d.Ok ∧ ∃ vs vq m, Raw w F g d vs vq m

namespace RawF
variable {w w' : World} {F F' F2 F2' : Foot} {g : Nat} {d : Dk} {vs vq : Value} {m : Nat} {f : Int → Option Value}
theorem keep (h : RawF w F g d f vs vq m) (hk : ∀ b, F b → w'.heap[b]? = w.heap[b]?) (hs : w.heap.size ≤ w'.heap.size) : RawF w' F g d f vs vq m :=
  ⟨(hk g h.fg).trans h.head, own_keep h.safe fun b hb => hk b (h.fs b hb), own_keep h.wait fun b hb => hk b (h.fq b hb), h.last.keep (hk m h.fm), h.fg, h.fm, h.fs, h.fq, fun b hb => Nat.lt_of_lt_of_le (h.lt b hb) hs⟩
theorem below (h : RawF w F g d f vs vq m) (hb : Below w.heap.size w w') : RawF w' F g d f vs vq m := h.keep (fun b hF => hb.block b (h.lt b hF)) hb.size
theorem drew (h : RawF w F g d f vs vq m) : RawF w.drew F g d f vs vq m := h.keep (fun _ _ => rfl) (Nat.le_refl _)
theorem cells (h : RawF w F g d f vs vq m) : w.cell? ⟨g, 0, none⟩ = some vs ∧ w.cell? ⟨g, 1, none⟩ = some vq ∧ w.cell? ⟨g, 2, none⟩ = some (.map (some m)) ∧ w.cell? ⟨g, 3, none⟩ = some (.bool d.gone) ∧
    w.cell? ⟨g, 4, none⟩ = some (.bool d.fuse.isSome) ∧ w.cell? ⟨g, 5, none⟩ = some (.int .i64 (fuseOf d.fuse)) :=
  ⟨h.head.cell 0, h.head.cell 1, h.head.cell 2, h.head.cell 3, h.head.cell 4, h.head.cell 5⟩
theorem frozen (h : RawF w F g d f vs vq m) (i : Nat) : w.frozen? ⟨g, i, none⟩ = false := h.head.frozen i
theorem gm (h : RawF w F g d f vs vq m) : g ≠ m := h.last.cells h.head
theorem gs (h : RawF w F g d f vs vq m) : vs.ownBlock ≠ some g := own_blk h.safe h.head (by decide)
theorem gq (h : RawF w F g d f vs vq m) : vq.ownBlock ≠ some g := own_blk h.wait h.head (by decide)
theorem sq (h : RawF w F g d f vs vq m) {b : Nat} (hb : vs.ownBlock = some b) : vq.ownBlock ≠ some b := own_apart h.safe h.wait (by decide) hb
theorem sm (h : RawF w F g d f vs vq m) : vs.ownBlock ≠ some m := own_map h.safe h.last
theorem qm (h : RawF w F g d f vs vq m) : vq.ownBlock ≠ some m := own_map h.wait h.last
/-- A cell of the head is written. -/
theorem head_set (h : RawF w F g d f vs vq m) (i : Nat) (v : Value) : w.ownsRow 0 9 1 vs d.safe.length (strsV d.safe) → Blk (w.setCell ⟨g, i, none⟩ v) g 56 ((diskCells vs vq m d.gone d.fuse.isSome (fuseOf d.fuse)).setIfInBounds i v) ∧
    (w.setCell ⟨g, i, none⟩ v).ownsRow 0 9 1 vs d.safe.length (strsV d.safe) ∧ (w.setCell ⟨g, i, none⟩ v).ownsRow 0 69 2 vq d.waits.length (waitsV d.waits) ∧ IsMap (w.setCell ⟨g, i, none⟩ v) m f ∧
    ∀ b, F b → b < (w.setCell ⟨g, i, none⟩ v).heap.size := fun hs =>
  ⟨h.head.set i v, own_keep hs fun b hb => heap_setCell_other w _ b v (fun e => h.gs (by rw [hb, e])), own_keep h.wait fun b hb => heap_setCell_other w _ b v (fun e => h.gq (by rw [hb, e])), h.last.keep (heap_setCell_other w _ m v h.gm.symm), fun b hb => by simpa [World.setCell] using h.lt b hb⟩
theorem setGone (h : RawF w F g d f vs vq m) (x : Bool) : RawF (w.setCell ⟨g, 3, none⟩ (.bool x)) F g { d with gone := x } f vs vq m := by
  obtain ⟨a, b, c, e, l⟩ := h.head_set 3 (.bool x) h.safe
  exact ⟨a, b, c, e, h.fg, h.fm, h.fs, h.fq, l⟩
theorem setArmed (h : RawF w F g d f vs vq m) (i : Nat) (v : Value) {k : Option Nat} {gone : Bool} (e : (diskCells vs vq m d.gone d.fuse.isSome (fuseOf d.fuse)).setIfInBounds i v = diskCells vs vq m gone k.isSome (fuseOf k)) :
    RawF (w.setCell ⟨g, i, none⟩ v) F g { d with gone := gone, fuse := k } f vs vq m := by
  obtain ⟨a, b, c, q, l⟩ := h.head_set i v h.safe
  rw [e] at a
  exact ⟨a, b, c, q, h.fg, h.fm, h.fs, h.fq, l⟩
end RawF
namespace IsDisk
variable {w w' : World} {F F' F2 F2' : Foot} {g : Nat} {d : Dk}
theorem keep (h : IsDisk w F g d) (hk : ∀ b, F b → w'.heap[b]? = w.heap[b]?) (hs : w.heap.size ≤ w'.heap.size) : IsDisk w' F g d := by
  obtain ⟨ho, vs, vq, m, r⟩ := h
  exact ⟨ho, vs, vq, m, r.keep hk hs⟩
theorem below (h : IsDisk w F g d) (hb : Below w.heap.size w w') : IsDisk w' F g d := by
  obtain ⟨ho, vs, vq, m, r⟩ := h
  exact ⟨ho, vs, vq, m, r.below hb⟩
theorem drew (h : IsDisk w F g d) : IsDisk w.drew F g d := h.keep (fun _ _ => rfl) (Nat.le_refl _)
theorem lt (h : IsDisk w F g d) : ∀ b, F b → b < w.heap.size := by obtain ⟨_, _, _, _, r⟩ := h; exact r.lt
/-- What another one does. -/
theorem apart (h : IsDisk w F g d) (hs : Step F2 F2' w w') (ha : ∀ b, F b → ¬ F2 b) : IsDisk w' F g d ∧ ∀ b, F b → ¬ F2' b :=
  ⟨h.keep (fun b hb => hs.block b (h.lt b hb) (ha b hb)) hs.size, fun b hb g => (hs.foot b g).elim (ha b hb) (fun k => by have := h.lt b hb; omega)⟩
end IsDisk

theorem own_head {w : World} {d : Dk} {vs : Value} (ho : d.Ok) (h : w.ownsRow 0 9 1 vs d.safe.length (strsV d.safe)) : ∃ s cap, vs = .slice (some ⟨s, 0, none⟩) d.safe.length cap ∧ d.safe.length ≤ cap := by
  obtain ⟨s, cap, rfl, h1, _⟩ := own_form h ho.pos
  exact ⟨s, cap, rfl, h1⟩

section
variable {w : World} {F : Foot} {g : Nat} {d : Dk}
set_option maxRecDepth 100000 in
set_option maxHeartbeats 1000000 in
theorem has_any (h : IsDisk w F g d) (i : Int) (b : Bool) (hb : b = decide (d.has i)) :
    Calls Try.prog 40 #[.pointer (some ⟨g, 0, none⟩), .int .i64 i] w fun e w' => e = .returned (.bool b) ∧ w = w' := by
  obtain ⟨ho, vs, vq, m, r⟩ := h
  obtain ⟨s, cap, rfl, hc⟩ := own_head ho r.safe
  obtain ⟨c0, _⟩ := r.cells
  have hn := ho.le
  have hdec : ∀ p : Prop, [Decidable p] → (p ↔ d.has i) → b = decide p := fun p _ hp => by rw [hb]; exact decide_eq_decide.2 hp.symm
  unfold Dk.has at hdec
  have HD := hdec
  clear hdec hb r ho
  generalize d.safe.length = n at *
  by_cases h0 : 0 ≤ i
  · by_cases h1 : i < n
    · obtain rfl : b = true := by rw [HD True ⟨fun _ => ⟨h0, h1⟩, fun _ => trivial⟩]; rfl
      have hd : decide (i < (n : Int)) = true := by simpa using h1
      clear HD
      go_enter Try.func40, Try.ntmps40
      go_wp2
      go_ret
      exact ⟨rfl, rfl⟩
    · obtain rfl : b = false := by rw [HD False ⟨fun k => k.elim, fun k => h1 k.2⟩]; rfl
      have hd : decide (i < (n : Int)) = false := by simpa using h1
      clear HD
      go_enter Try.func40, Try.ntmps40
      go_wp2
      go_ret
      exact ⟨rfl, rfl⟩
  · obtain rfl : b = false := by rw [HD False ⟨fun k => k.elim, fun k => h0 k.1⟩]; rfl
    have hd : decide (0 ≤ i) = false := by simpa using h0
    clear HD
    go_enter Try.func40, Try.ntmps40
    go_wp2
    go_ret
    exact ⟨rfl, rfl⟩
end
end Go.Proofs.Ytbjpnkjddfpmpaa
