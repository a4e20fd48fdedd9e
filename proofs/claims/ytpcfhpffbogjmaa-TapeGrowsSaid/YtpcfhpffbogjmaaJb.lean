/- Texts that belong together, joined: Dk, DiskA, DiskB, DiskC, DiskD, DiskE, DiskF, DiskG, Repeat, DiskH. -/
import Derived.Test.YtpcfhpffbogjmaaBase
import Derived.Test.YtpcfhpffbogjmaaFoot
import Derived.Test.YtpcfhpffbogjmaaClone
import Derived.Deep.RegionHeld3
import Derived.StillTailTactics
import Derived.Deep.RegionLaw
import Derived.Test.YtpcfhpffbogjmaaJa
import Derived.Test.YtpcfhpffbogjmaaLists
import Derived.Test.YtpcfhpffbogjmaaRegion
import Derived.Laws.OwnMore
import Derived.Laws.CopyRow
import Derived.Laws.CopyOwn
import Derived.Laws.BitsAllLaws
import Derived.Test.YtpcfhpffbogjmaaRegionF
/- A disk as the document tells it: plain mathematics; nothing of the program is imported. -/
namespace Go.Proofs.Ytpcfhpffbogjmaa

theorem snoc_ind {α : Type} {p : List α → Prop} (h0 : p []) (h1 : ∀ l x, p l → p (l ++ [x])) (l : List α) : p l := by
  have h : ∀ r : List α, p r.reverse := fun r => by
    induction r with
    | nil => exact h0
    | cons x r ih => rw [List.reverse_cons]; exact h1 _ _ ih
  have := h l.reverse
  rwa [List.reverse_reverse] at this
def zero128 : ByteArray := ⟨(List.replicate 128 0).toArray⟩
theorem zero128_size : zero128.size = 128 := by simp [zero128, ByteArray.size]
/-- Sectors that are safe; writes that wait, in order; whether the power is gone; how many writes and syncs are borne still. -/
structure Dk where
  safe : List ByteArray
  waits : List (Nat × ByteArray)
  gone : Bool
  fuse : Option Nat
/-- The last write of a sector. -/
def lastOf (l : List (Nat × ByteArray)) (i : Int) : Option ByteArray := l.foldl (fun o x => if (x.1 : Int) = i then some x.2 else o) none
theorem lastOf_snoc (l : List (Nat × ByteArray)) (x : Nat × ByteArray) (i : Int) : lastOf (l ++ [x]) i = if (x.1 : Int) = i then some x.2 else lastOf l i := by simp [lastOf]
theorem lastOf_nil (i : Int) : lastOf [] i = none := rfl
theorem lastOf_mem {l : List (Nat × ByteArray)} {i : Int} {s : ByteArray} (h : lastOf l i = some s) : ∃ x ∈ l, (x.1 : Int) = i ∧ x.2 = s := by
  revert h
  refine snoc_ind (p := fun l => lastOf l i = some s → ∃ x ∈ l, (x.1 : Int) = i ∧ x.2 = s) (fun h => by cases h) ?_ l
  · intro l x ih h
    rw [lastOf_snoc] at h
    by_cases g : (x.1 : Int) = i
    · rw [if_pos g] at h
      exact ⟨x, by simp, g, Option.some.inj h⟩
    · rw [if_neg g] at h
      obtain ⟨y, hy, k⟩ := ih h
      exact ⟨y, by simp [hy], k⟩
theorem lastOf_filter (l : List (Nat × ByteArray)) (i c : Int) : lastOf (l.filter fun x => !((x.1 : Int) == i)) c = if c = i then none else lastOf l c := by
  refine snoc_ind (p := fun l => lastOf (l.filter fun x => !((x.1 : Int) == i)) c = if c = i then none else lastOf l c) (by simp [lastOf]) ?_ l
  · intro l x ih
    rw [List.filter_append, lastOf_snoc]
    by_cases g : (x.1 : Int) = i
    · rw [List.filter_cons_of_neg (by simp [g]), List.filter_nil, List.append_nil, ih]
      by_cases k : c = i
      · rw [if_pos k, if_pos k]
      · rw [if_neg k, if_neg k, if_neg (by omega)]
    · rw [List.filter_cons_of_pos (by simp [g]), List.filter_nil, lastOf_snoc, ih]
      by_cases k : c = i
      · rw [if_neg (by omega), if_pos k, if_pos k]
      · rw [if_neg k, if_neg k]
/-- What a crash makes of the j-th write. -/
def fate (p : List UInt8) (j : Nat) : Nat := if p.length = 0 then 0 else (p.getD (j % p.length) 0).toNat % 3
theorem fate_lt (p : List UInt8) (j : Nat) : fate p j < 3 := by unfold fate; split <;> omega
def settleOne (f : Nat) (x : Nat × ByteArray) (s : List ByteArray) : List ByteArray := if f = 1 then s.set x.1 x.2 else if f = 2 then s.set x.1 zero128 else s
/-- The first k writes are settled, each by its fate. -/
def settleTo (f : Nat → Nat) (l : List (Nat × ByteArray)) (s : List ByteArray) : Nat → List ByteArray
  | 0 => s
  | k + 1 => match l[k]? with
    | some x => settleOne (f k) x (settleTo f l s k)
    | none => settleTo f l s k
theorem settleOne_len (f : Nat) (x : Nat × ByteArray) (s : List ByteArray) : (settleOne f x s).length = s.length := by unfold settleOne; split <;> (try split) <;> simp
theorem settleTo_len (f : Nat → Nat) (l : List (Nat × ByteArray)) (s : List ByteArray) : ∀ k, (settleTo f l s k).length = s.length
  | 0 => rfl
  | k + 1 => by
    unfold settleTo
    split
    · rw [settleOne_len, settleTo_len f l s k]
    · exact settleTo_len f l s k
theorem settleTo_succ (f : Nat → Nat) (l : List (Nat × ByteArray)) (s : List ByteArray) (k : Nat) (h : k < l.length) : settleTo f l s (k + 1) = settleOne (f k) l[k] (settleTo f l s k) := by
  rw [settleTo, List.getElem?_eq_getElem h]
namespace Dk
def new (n : Nat) : Dk := ⟨List.replicate n zero128, [], false, none⟩
def bears (d : Dk) : Bool := !(d.gone || d.fuse == some 0)
def burn (d : Dk) : Dk := if d.bears then { d with fuse := d.fuse.map (· - 1) } else { d with gone := true }
def has (d : Dk) (i : Int) : Prop := 0 ≤ i ∧ i < d.safe.length
instance (d : Dk) (i : Int) : Decidable (d.has i) := inferInstanceAs (Decidable (_ ∧ _))
def writeE (d : Dk) (i : Int) (s : ByteArray) : Nat := if d.has i then if s.size = 128 then if d.bears then 0 else 4 else 1 else 2
def write (d : Dk) (i : Int) (s : ByteArray) : Dk := if d.has i then if s.size = 128 then if d.bears then { d.burn with waits := d.waits ++ [(i.toNat, s)] } else d.burn else d else d
def settled (d : Dk) (f : Nat → Nat) : List ByteArray := settleTo f d.waits d.safe d.waits.length
def syncE (d : Dk) : Nat := if d.bears then 0 else 4
def sync (d : Dk) : Dk := if d.bears then { d.burn with safe := d.settled fun _ => 1, waits := [] } else d.burn
def crash (d : Dk) (p : List UInt8) : Dk := ⟨d.settled (fate p), [], false, none⟩
def arm (d : Dk) (k : Int) : Dk := { d with fuse := if 0 ≤ k then some k.toNat else none }
def reachE (d : Dk) (i : Int) : Nat := if d.gone then 4 else if d.has i then 0 else 2
def lose (d : Dk) (i : Int) : Dk := if d.reachE i = 0 then { d with safe := d.safe.set i.toNat zero128, waits := d.waits.filter fun x => !((x.1 : Int) == i) } else d
def at_ (d : Dk) (i : Int) : ByteArray := (lastOf d.waits i).getD (d.safe.getD i.toNat zero128)
def read (d : Dk) (i : Int) : ByteArray := if d.reachE i = 0 then d.at_ i else ⟨#[]⟩

structure Ok (d : Dk) : Prop where
  pos : 0 < d.safe.length
  le : d.safe.length ≤ 512
  sect : ∀ s ∈ d.safe, s.size = 128
  wait : ∀ x ∈ d.waits, x.1 < d.safe.length ∧ x.2.size = 128
  fuse : ∀ f, d.fuse = some f → f < 9223372036854775808
theorem Ok.new {n : Nat} (h0 : 0 < n) (h1 : n ≤ 512) : (Dk.new n).Ok :=
  ⟨by simpa [Dk.new] using h0, by simpa [Dk.new] using h1, fun s hs => by rw [List.eq_of_mem_replicate hs]; exact zero128_size, fun x hx => by simp [Dk.new] at hx, fun f hf => by cases hf⟩
theorem Ok.burn {d : Dk} (h : d.Ok) : d.burn.Ok := by
  unfold Dk.burn
  split
  · refine ⟨h.pos, h.le, h.sect, h.wait, fun f hf => ?_⟩
    cases hd : d.fuse with
    | none => rw [hd] at hf; cases hf
    | some g =>
      rw [hd] at hf
      simp only [Option.map_some, Option.some.injEq] at hf
      have := h.fuse g hd
      omega
  · exact ⟨h.pos, h.le, h.sect, h.wait, h.fuse⟩
theorem burn_safe (d : Dk) : d.burn.safe = d.safe := by unfold Dk.burn; split <;> rfl
theorem burn_waits (d : Dk) : d.burn.waits = d.waits := by unfold Dk.burn; split <;> rfl
theorem Ok.write {d : Dk} (h : d.Ok) (i : Int) (s : ByteArray) : (d.write i s).Ok := by
  unfold Dk.write
  split
  · rename_i hi
    split
    · rename_i hs
      split
      · have hb := h.burn
        refine ⟨hb.pos, hb.le, hb.sect, fun x hx => ?_, hb.fuse⟩
        simp only [burn_safe]
        rcases List.mem_append.1 hx with hx | hx
        · exact h.wait x hx
        · simp at hx; subst hx; exact ⟨by have := hi.1; have := hi.2; simp; omega, hs⟩
      · exact h.burn
    · exact h
  · exact h
theorem settleOne_sect {f : Nat} {x : Nat × ByteArray} {s : List ByteArray} (h : ∀ t ∈ s, t.size = 128) (hx : x.2.size = 128) : ∀ t ∈ settleOne f x s, t.size = 128 := by
  intro t ht
  unfold settleOne at ht
  split at ht
  · rcases List.mem_or_eq_of_mem_set ht with ht | rfl
    · exact h t ht
    · exact hx
  · split at ht
    · rcases List.mem_or_eq_of_mem_set ht with ht | rfl
      · exact h t ht
      · exact zero128_size
    · exact h t ht
theorem settleTo_sect {f : Nat → Nat} {l : List (Nat × ByteArray)} {s : List ByteArray} (h : ∀ t ∈ s, t.size = 128) (hl : ∀ x ∈ l, x.2.size = 128) : ∀ k, ∀ t ∈ settleTo f l s k, t.size = 128
  | 0 => h
  | k + 1 => by
    unfold settleTo
    split
    · rename_i x hx
      exact settleOne_sect (settleTo_sect h hl k) (hl x (List.mem_of_getElem? hx))
    · exact settleTo_sect h hl k
theorem Ok.settled {d : Dk} (h : d.Ok) (f : Nat → Nat) : 0 < (d.settled f).length ∧ (d.settled f).length ≤ 512 ∧ ∀ s ∈ d.settled f, s.size = 128 :=
  ⟨by unfold Dk.settled; rw [settleTo_len]; exact h.pos, by unfold Dk.settled; rw [settleTo_len]; exact h.le, settleTo_sect h.sect (fun x hx => (h.wait x hx).2) _⟩
theorem Ok.sync {d : Dk} (h : d.Ok) : d.sync.Ok := by
  unfold Dk.sync
  split
  · obtain ⟨a, b, c⟩ := h.settled fun _ => 1
    exact ⟨a, b, c, fun x hx => (by cases hx), h.burn.fuse⟩
  · exact h.burn
theorem Ok.crash {d : Dk} (h : d.Ok) (p : List UInt8) : (d.crash p).Ok := by
  obtain ⟨a, b, c⟩ := h.settled (fate p)
  exact ⟨a, b, c, fun x hx => (by cases hx), fun f hf => by cases hf⟩
theorem Ok.arm {d : Dk} (h : d.Ok) (k : Int) (hk : k < 9223372036854775808) : (d.arm k).Ok := by
  refine ⟨h.pos, h.le, h.sect, h.wait, fun f hf => ?_⟩
  simp only [Dk.arm] at hf
  split at hf
  · simp only [Option.some.injEq] at hf; omega
  · cases hf
theorem Ok.lose {d : Dk} (h : d.Ok) (i : Int) : (d.lose i).Ok := by
  unfold Dk.lose
  split
  · refine ⟨by simpa using h.pos, by simpa using h.le, fun s hs => ?_, fun x hx => ?_, h.fuse⟩
    · rcases List.mem_or_eq_of_mem_set hs with hs | rfl
      · exact h.sect s hs
      · exact zero128_size
    · have := h.wait x (List.mem_filter.1 hx).1
      simpa using this
  · exact h
end Dk
end Go.Proofs.Ytpcfhpffbogjmaa

/- Package disk: what a disk is in memory; the small calls. -/
namespace Go.Proofs.Ytpcfhpffbogjmaa
open Go.RowKit

def strsV (l : List ByteArray) : List Value := l.map Value.string
def writeCells (x : Nat × ByteArray) : List Value := [.int .i64 x.1, .string x.2]
def waitsV (l : List (Nat × ByteArray)) : List Value := l.flatMap writeCells
def writeV (i : Int) (s : ByteArray) : Value := .agg #[.int .i64 i, .string s]
def lastV (l : List (Nat × ByteArray)) (i : Int) : Option Value := (lastOf l i).map (writeV i)
def diskCells (vs vq : Value) (m : Nat) (gone armed : Bool) (fuse : Int) : Array Value := #[vs, vq, .map (some m), .bool gone, .bool armed, .int .i64 fuse]
def fuseOf (f : Option Nat) : Int := ((f.getD 0 : Nat) : Int)
theorem strsV_len (l : List ByteArray) : (strsV l).length = l.length := by simp [strsV]
theorem waitsV_len (l : List (Nat × ByteArray)) : (waitsV l).length = l.length * 2 := by
  induction l with
  | nil => rfl
  | cons x l ih => simp [waitsV, writeCells] at ih ⊢; omega
theorem waitsV_snoc (l : List (Nat × ByteArray)) (x : Nat × ByteArray) : waitsV (l ++ [x]) = waitsV l ++ writeCells x := by simp [waitsV]
theorem waitsV_at (l : List (Nat × ByteArray)) (k : Nat) (h : k < l.length) : (waitsV l)[k * 2]? = some (.int .i64 l[k].1) ∧ (waitsV l)[k * 2 + 1]? = some (.string l[k].2) := by
  induction l generalizing k with
  | nil => simp at h
  | cons x l ih =>
    have e : waitsV (x :: l) = .int .i64 x.1 :: .string x.2 :: waitsV l := rfl
    rw [e]
    cases k with
    | zero => exact ⟨rfl, rfl⟩
    | succ k =>
      have := ih k (by simpa using h)
      rw [show (k + 1) * 2 = k * 2 + 1 + 1 from by omega]
      simpa using this

/-- A disk's blocks; what its map holds. -/
structure RawF (w : World) (F : Foot) (g : Nat) (d : Dk) (f : Int → Option Value) (vs vq : Value) (m : Nat) : Prop where
  head : Blk w g 72 (diskCells vs vq m d.gone d.fuse.isSome (fuseOf d.fuse))
  safe : w.ownsRow 0 9 1 vs d.safe.length (strsV d.safe)
  wait : w.ownsRow 0 108 2 vq d.waits.length (waitsV d.waits)
  last : IsMap w m f
  fg : F g
  fm : F m
  fs : ∀ b, vs.ownBlock = some b → F b
  fq : ∀ b, vq.ownBlock = some b → F b
  lt : ∀ b, F b → b < w.heap.size
abbrev Raw (w : World) (F : Foot) (g : Nat) (d : Dk) (vs vq : Value) (m : Nat) : Prop := RawF w F g d (lastV d.waits) vs vq m
/-- The disk at block g, with the footprint F, is d. -/
def IsDisk (w : World) (F : Foot) (g : Nat) (d : Dk) : Prop := d.Ok ∧ ∃ vs vq m, Raw w F g d vs vq m

namespace RawF
variable {w w' : World} {F F' F2 F2' : Foot} {g : Nat} {d : Dk} {vs vq : Value} {m : Nat} {f : Int → Option Value}
theorem keep (h : RawF w F g d f vs vq m) (hk : ∀ b, F b → w'.heap[b]? = w.heap[b]?) (hs : w.heap.size ≤ w'.heap.size) : RawF w' F g d f vs vq m :=
  ⟨(hk g h.fg).trans h.head, own_keep h.safe fun b hb => hk b (h.fs b hb), own_keep h.wait fun b hb => hk b (h.fq b hb), h.last.keep (hk m h.fm), h.fg, h.fm, h.fs, h.fq, fun b hb => Nat.lt_of_lt_of_le (h.lt b hb) hs⟩
theorem below (h : RawF w F g d f vs vq m) (hb : Below w.heap.size w w') : RawF w' F g d f vs vq m := h.keep (fun b hF => hb.block b (h.lt b hF)) hb.size
theorem drew (h : RawF w F g d f vs vq m) : RawF w.drew F g d f vs vq m := h.keep (fun _ _ => rfl) (Nat.le_refl _)
theorem cells (h : RawF w F g d f vs vq m) : w.cell? ⟨g, 0, none⟩ = some vs ∧ w.cell? ⟨g, 1, none⟩ = some vq ∧ w.cell? ⟨g, 2, none⟩ = some (.map (some m)) ∧ w.cell? ⟨g, 3, none⟩ = some (.bool d.gone) ∧
    w.cell? ⟨g, 4, none⟩ = some (.bool d.fuse.isSome) ∧ w.cell? ⟨g, 5, none⟩ = some (.int .i64 (fuseOf d.fuse)) :=
  ⟨h.head.cell 0, h.head.cell 1, h.head.cell 2, h.head.cell 3, h.head.cell 4, h.head.cell 5⟩
theorem frozen (h : RawF w F g d f vs vq m) (i : Nat) : w.frozen? ⟨g, i, none⟩ = false := h.head.frozen i
theorem gm (h : RawF w F g d f vs vq m) : g ≠ m := h.last.cells h.head
theorem gs (h : RawF w F g d f vs vq m) : vs.ownBlock ≠ some g := own_blk h.safe h.head (by decide)
theorem gq (h : RawF w F g d f vs vq m) : vq.ownBlock ≠ some g := own_blk h.wait h.head (by decide)
theorem sq (h : RawF w F g d f vs vq m) {b : Nat} (hb : vs.ownBlock = some b) : vq.ownBlock ≠ some b := own_apart h.safe h.wait (by decide) hb
theorem sm (h : RawF w F g d f vs vq m) : vs.ownBlock ≠ some m := own_map h.safe h.last
theorem qm (h : RawF w F g d f vs vq m) : vq.ownBlock ≠ some m := own_map h.wait h.last
/-- A cell of the head is written. -/
theorem head_set (h : RawF w F g d f vs vq m) (i : Nat) (v : Value) : w.ownsRow 0 9 1 vs d.safe.length (strsV d.safe) → Blk (w.setCell ⟨g, i, none⟩ v) g 72 ((diskCells vs vq m d.gone d.fuse.isSome (fuseOf d.fuse)).setIfInBounds i v) ∧
    (w.setCell ⟨g, i, none⟩ v).ownsRow 0 9 1 vs d.safe.length (strsV d.safe) ∧ (w.setCell ⟨g, i, none⟩ v).ownsRow 0 108 2 vq d.waits.length (waitsV d.waits) ∧ IsMap (w.setCell ⟨g, i, none⟩ v) m f ∧
    ∀ b, F b → b < (w.setCell ⟨g, i, none⟩ v).heap.size := fun hs =>
  ⟨h.head.set i v, own_keep hs fun b hb => heap_setCell_other w _ b v (fun e => h.gs (by rw [hb, e])), own_keep h.wait fun b hb => heap_setCell_other w _ b v (fun e => h.gq (by rw [hb, e])), h.last.keep (heap_setCell_other w _ m v h.gm.symm), fun b hb => by simpa [World.setCell] using h.lt b hb⟩
theorem setGone (h : RawF w F g d f vs vq m) (x : Bool) : RawF (w.setCell ⟨g, 3, none⟩ (.bool x)) F g { d with gone := x } f vs vq m := by
  obtain ⟨a, b, c, e, l⟩ := h.head_set 3 (.bool x) h.safe
  exact ⟨a, b, c, e, h.fg, h.fm, h.fs, h.fq, l⟩
theorem setArmed (h : RawF w F g d f vs vq m) (i : Nat) (v : Value) {k : Option Nat} {gone : Bool} (e : (diskCells vs vq m d.gone d.fuse.isSome (fuseOf d.fuse)).setIfInBounds i v = diskCells vs vq m gone k.isSome (fuseOf k)) :
    RawF (w.setCell ⟨g, i, none⟩ v) F g { d with gone := gone, fuse := k } f vs vq m := by
  obtain ⟨a, b, c, q, l⟩ := h.head_set i v h.safe
  rw [e] at a
  exact ⟨a, b, c, q, h.fg, h.fm, h.fs, h.fq, l⟩
end RawF
namespace IsDisk
variable {w w' : World} {F F' F2 F2' : Foot} {g : Nat} {d : Dk}
theorem keep (h : IsDisk w F g d) (hk : ∀ b, F b → w'.heap[b]? = w.heap[b]?) (hs : w.heap.size ≤ w'.heap.size) : IsDisk w' F g d := by
  obtain ⟨ho, vs, vq, m, r⟩ := h
  exact ⟨ho, vs, vq, m, r.keep hk hs⟩
theorem below (h : IsDisk w F g d) (hb : Below w.heap.size w w') : IsDisk w' F g d := by
  obtain ⟨ho, vs, vq, m, r⟩ := h
  exact ⟨ho, vs, vq, m, r.below hb⟩
theorem drew (h : IsDisk w F g d) : IsDisk w.drew F g d := h.keep (fun _ _ => rfl) (Nat.le_refl _)
theorem lt (h : IsDisk w F g d) : ∀ b, F b → b < w.heap.size := by obtain ⟨_, _, _, _, r⟩ := h; exact r.lt
/-- What another one does. -/
theorem apart (h : IsDisk w F g d) (hs : Step F2 F2' w w') (ha : ∀ b, F b → ¬ F2 b) : IsDisk w' F g d ∧ ∀ b, F b → ¬ F2' b :=
  ⟨h.keep (fun b hb => hs.block b (h.lt b hb) (ha b hb)) hs.size, fun b hb g => (hs.foot b g).elim (ha b hb) (fun k => by have := h.lt b hb; omega)⟩
end IsDisk

theorem own_head {w : World} {d : Dk} {vs : Value} (ho : d.Ok) (h : w.ownsRow 0 9 1 vs d.safe.length (strsV d.safe)) : ∃ s cap, vs = .slice (some ⟨s, 0, none⟩) d.safe.length cap ∧ d.safe.length ≤ cap := by
  obtain ⟨s, cap, rfl, h1, _⟩ := own_form h ho.pos
  exact ⟨s, cap, rfl, h1⟩

section
variable {w : World} {F : Foot} {g : Nat} {d : Dk}
set_option maxRecDepth 100000 in
set_option maxHeartbeats 1000000 in
theorem has_any (h : IsDisk w F g d) (i : Int) (b : Bool) (hb : b = decide (d.has i)) :
    Calls Try.prog 70 #[.pointer (some ⟨g, 0, none⟩), .int .i64 i] w fun e w' => e = .returned (.bool b) ∧ w = w' := by
  obtain ⟨ho, vs, vq, m, r⟩ := h
  obtain ⟨s, cap, rfl, hc⟩ := own_head ho r.safe
  obtain ⟨c0, _⟩ := r.cells
  have hn := ho.le
  have hdec : ∀ p : Prop, [Decidable p] → (p ↔ d.has i) → b = decide p := fun p _ hp => by rw [hb]; exact decide_eq_decide.2 hp.symm
  unfold Dk.has at hdec
  have HD := hdec
  clear hdec hb r ho
  generalize d.safe.length = n at *
  by_cases h0 : 0 ≤ i
  · by_cases h1 : i < n
    · obtain rfl : b = true := by rw [HD True ⟨fun _ => ⟨h0, h1⟩, fun _ => trivial⟩]; rfl
      have hd : decide (i < (n : Int)) = true := by simpa using h1
      clear HD
      go_enter Try.func70, Try.ntmps70
      go_wp2
      go_ret
      exact ⟨rfl, rfl⟩
    · obtain rfl : b = false := by rw [HD False ⟨fun k => k.elim, fun k => h1 k.2⟩]; rfl
      have hd : decide (i < (n : Int)) = false := by simpa using h1
      clear HD
      go_enter Try.func70, Try.ntmps70
      go_wp2
      go_ret
      exact ⟨rfl, rfl⟩
  · obtain rfl : b = false := by rw [HD False ⟨fun k => k.elim, fun k => h0 k.1⟩]; rfl
    have hd : decide (0 ≤ i) = false := by simpa using h0
    clear HD
    go_enter Try.func70, Try.ntmps70
    go_wp2
    go_ret
    exact ⟨rfl, rfl⟩
end
end Go.Proofs.Ytpcfhpffbogjmaa

/- Package disk: the small calls, continued. -/
namespace Go.Proofs.Ytpcfhpffbogjmaa
open Go.RowKit

section
variable {w : World} {F : Foot} {g : Nat} {d : Dk}
theorem step_set {v : Value} {i : Nat} (hg : F g) : Step F F w (w.setCell ⟨g, i, none⟩ v) := (Step.refl F w).set (p := ⟨g, i, none⟩) hg v

set_option maxRecDepth 100000 in
set_option maxHeartbeats 1000000 in
theorem bears_any (h : IsDisk w F g d) (b : Bool) (hb : b = d.bears) :
    Calls Try.prog 52 #[.pointer (some ⟨g, 0, none⟩)] w fun e w' => e = .returned (.bool b) ∧ IsDisk w' F g d.burn ∧ Step F F w w' := by
  obtain ⟨ho, vs, vq, m, r⟩ := h
  have hob := ho.burn
  obtain ⟨_, _, _, c3, c4, c5⟩ := r.cells
  have f3 := r.frozen 3
  have f5 := r.frozen 5
  have hsg := fun v i => @step_set w F g v i r.fg
  obtain ⟨safe, waits, gone, fuse⟩ := d
  cases fuse with
  | none =>
    cases gone with
    | false =>
      obtain rfl : b = true := hb
      have hd : IsDisk w F g (Dk.mk safe waits false none).burn := ⟨hob, vs, vq, m, r⟩
      have HD := Lib.hid hd
      clear hd r ho hob hsg
      go_enter Try.func52, Try.ntmps52
      go_wp2
      go_ret
      exact ⟨rfl, HD.out, Step.refl _ _⟩
    | true =>
      obtain rfl : b = false := hb
      have hd : IsDisk w F g (Dk.mk safe waits true none).burn := ⟨hob, vs, vq, m, r⟩
      have HD := Lib.hid hd
      clear hd r ho hob hsg
      go_enter Try.func52, Try.ntmps52
      go_wp2
      go_ret
      exact ⟨rfl, HD.out, Step.refl _ _⟩
  | some f =>
    cases f with
    | zero =>
      obtain rfl : b = false := by rw [hb]; cases gone <;> rfl
      have hd : IsDisk (w.setCell ⟨g, 3, none⟩ (.bool true)) F g (Dk.mk safe waits gone (some 0)).burn := by
        have e : (Dk.mk safe waits gone (some 0)).burn = Dk.mk safe waits true (some 0) := by cases gone <;> rfl
        refine ⟨hob, vs, vq, m, ?_⟩
        rw [e]
        exact r.setGone true
      have HD := Lib.hid hd
      have HS := Lib.hid (hsg (.bool true) 3)
      have e5 : ((0 : Int) == 0) = true := rfl
      change w.cell? _ = some (.int .i64 0) at c5
      clear hd r ho hob hsg hb
      go_enter Try.func52, Try.ntmps52
      go_wp2
      go_ret
      exact ⟨rfl, HD.out, HS.out⟩
    | succ f =>
      change w.cell? _ = some (.int .i64 ((f + 1 : Nat) : Int)) at c5
      have hlt := ho.fuse (f + 1) rfl
      have e5 : (((f + 1 : Nat) : Int) == 0) = false := by rw [beq_eq_false_iff_ne]; omega
      have ew : IntKind.i64.wrap (((f + 1 : Nat) : Int) - 1) = (f : Int) := by
        rw [IntKind.wrap_i64]; omega
      cases gone with
      | true =>
        obtain rfl : b = false := hb
        have hd : IsDisk w F g (Dk.mk safe waits true (some (f + 1))).burn := ⟨hob, vs, vq, m, r⟩
        have HD := Lib.hid hd
        generalize ((f + 1 : Nat) : Int) = x at *
        clear hd r ho hob hsg hlt ew
        go_enter Try.func52, Try.ntmps52
        go_wp2
        go_ret
        exact ⟨rfl, HD.out, Step.refl _ _⟩
      | false =>
        obtain rfl : b = true := hb
        have hd : IsDisk (w.setCell ⟨g, 5, none⟩ (.int .i64 (f : Int))) F g (Dk.mk safe waits false (some (f + 1))).burn :=
          ⟨hob, vs, vq, m, r.setArmed 5 (.int .i64 (f : Int)) (k := some f) (gone := false) rfl⟩
        have HD := Lib.hid hd
        have HS := Lib.hid (hsg (.int .i64 (f : Int)) 5)
        generalize ((f + 1 : Nat) : Int) = x at *
        generalize (f : Int) = y at *
        clear hd r ho hob hsg hlt
        go_enter Try.func52, Try.ntmps52
        go_wp2
        go_ret
        exact ⟨rfl, HD.out, HS.out⟩

/-- Whoever has none waiting. -/
theorem clear_run (w : World) (m : Nat) (f : Int → Option Value) (h : IsMap w m f) : ∃ o, (Builtin.clear_ #[69] 0 #[.map (some m)]).run Try.prog w = .ok (.tuple #[]) { w with heap := w.heap.setIfInBounds m o } ∧ IsMap { w with heap := w.heap.setIfInBounds m o } m fun _ => none :=
  h.clear Try.underlying69 0
end
end Go.Proofs.Ytpcfhpffbogjmaa

/- Package disk: none waits any more; the fuse; what is asked of a disk. -/
namespace Go.Proofs.Ytpcfhpffbogjmaa
open Go.RowKit

section
variable {w : World} {F : Foot} {g : Nat} {d : Dk}
set_option maxRecDepth 100000 in
set_option maxHeartbeats 1000000 in
theorem dropWaits_any (h : IsDisk w F g d) :
    Calls Try.prog 53 #[.pointer (some ⟨g, 0, none⟩)] w fun e w' => e = .returned (.tuple #[]) ∧ IsDisk w' F g { d with waits := [] } ∧ Step F F w w' := by
  obtain ⟨ho, vs, vq, m, r⟩ := h
  obtain ⟨_, c1, c2, _⟩ := r.cells
  have f1 := r.frozen 1
  obtain ⟨a1, a2, _, a4, a5⟩ := r.head_set 1 (.slice none 0 0) r.safe
  obtain ⟨o, hrun, hm⟩ := clear_run _ m _ a4
  have e2 : (w.setCell ⟨g, 1, none⟩ (.slice none 0 0)).cell? ⟨g, 2, none⟩ = some (.map (some m)) := a1.cell 2
  have hs : Step F F w { (w.setCell ⟨g, 1, none⟩ (.slice none 0 0)) with heap := (w.setCell ⟨g, 1, none⟩ (.slice none 0 0)).heap.setIfInBounds m o } := (step_set r.fg).setObj r.fm o
  have hd : IsDisk { (w.setCell ⟨g, 1, none⟩ (.slice none 0 0)) with heap := (w.setCell ⟨g, 1, none⟩ (.slice none 0 0)).heap.setIfInBounds m o } F g { d with waits := [] } := by
    have far : ∀ b, b ≠ m → ((w.setCell ⟨g, 1, none⟩ (.slice none 0 0)).heap.setIfInBounds m o)[b]? = (w.setCell ⟨g, 1, none⟩ (.slice none 0 0)).heap[b]? := fun b hb => by
      rw [Array.getElem?_setIfInBounds, if_neg (Ne.symm hb)]
    refine ⟨⟨ho.pos, ho.le, ho.sect, fun x hx => (by cases hx), ho.fuse⟩, vs, .slice none 0 0, m, ?_⟩
    exact ⟨(far g r.gm).trans a1, own_keep a2 fun b hb => far b (fun e => r.sm (by rw [hb, e])), World.ownsRow_nil _ _ _ _, hm, r.fg, r.fm, r.fs, fun b hb => by simp [Value.ownBlock] at hb, fun b hb => by simpa using r.lt b hb⟩
  have HD := Lib.hid hd
  have HS := Lib.hid hs
  generalize (w.setCell ⟨g, 1, none⟩ (.slice none 0 0)).heap.setIfInBounds m o = hp at *
  clear hd hs hm a1 a2 a4 a5 r ho
  go_enter Try.func53, Try.ntmps53
  go_wp2
  go_end0
  exact ⟨rfl, HD.out, HS.out⟩

theorem own_len {base size n : Nat} {e : TypeId} {v : Value} {xs : List Value} (h : w.ownsRow base e size v n xs) : ∃ a cap, v = .slice a n cap ∧ n ≤ maxLen := by
  obtain ⟨_, ⟨rfl, rfl⟩ | ⟨g, cap, cur, rfl, _, _, h1, h2, _⟩⟩ := h
  · exact ⟨none, 0, rfl, Nat.zero_le _⟩
  · exact ⟨_, _, rfl, Nat.le_trans h1 h2⟩
set_option maxRecDepth 100000 in
theorem size_any (h : IsDisk w F g d) : Calls Try.prog 28 #[.pointer (some ⟨g, 0, none⟩)] w fun e w' => e = .returned (.int .i64 d.safe.length) ∧ w = w' := by
  obtain ⟨_, vs, vq, m, r⟩ := h
  obtain ⟨a, cap, rfl, _⟩ := own_len r.safe
  obtain ⟨c0, _⟩ := r.cells
  clear r
  go_enter Try.func28, Try.ntmps28
  go_wp2
  go_ret
  exact ⟨rfl, rfl⟩
set_option maxRecDepth 100000 in
theorem size_nil (w : World) : Calls Try.prog 28 #[.pointer none] w fun e w' => e = .returned (.int .i64 0) ∧ w = w' := by
  go_enter Try.func28, Try.ntmps28
  go_wp2
  go_ret
  exact ⟨rfl, rfl⟩
end
end Go.Proofs.Ytpcfhpffbogjmaa

/- Package disk: a sector is read. -/
namespace Go.Proofs.Ytpcfhpffbogjmaa
open Go.RowKit

theorem zero_write (w : World) : (zeroValue 108).run Try.prog w = .ok (.agg #[.int .i64 0, .string ⟨#[]⟩]) w := by kernel_rfl
theorem look_run {w : World} {m : Nat} {f : Int → Option Value} (h : IsMap w m f) (i : Int) :
    (Instr.lookup 69 (.map (some m)) (.int .i64 i) true).run Try.prog w = .ok (.tuple #[(f i).getD (.agg #[.int .i64 0, .string ⟨#[]⟩]), .bool (f i).isSome]) w :=
  h.look Try.underlying69 Try.underlying3 i (zero_write w)

section
variable {w : World} {F : Foot} {g : Nat} {d : Dk}
theorem at_size (ho : d.Ok) (i : Int) (hi : d.has i) : (d.at_ i).size = 128 := by
  unfold Dk.at_
  cases hl : lastOf d.waits i with
  | some s =>
    obtain ⟨x, hx, _, rfl⟩ := lastOf_mem hl
    exact (ho.wait x hx).2
  | none =>
    simp only [Option.getD_none]
    have h0 := hi.1
    have h1 := hi.2
    rw [List.getD_eq_getElem?_getD, List.getElem?_eq_getElem (by omega)]
    exact ho.sect _ (List.getElem_mem _)
end
end Go.Proofs.Ytpcfhpffbogjmaa

/- Package disk: a sector is written. -/
namespace Go.Proofs.Ytpcfhpffbogjmaa
open Go.RowKit

theorem info_write : (Try.prog.info? 108).map (fun i => (i.zero, i.size, i.bytes)) = some (some (.agg #[.int .i64 0, .string ⟨#[]⟩]), 2, 24) := by kernel_rfl

section
variable {w : World} {F : Foot} {g : Nat} {d : Dk}
/-- Behind the append: the row of the writes that wait is longer; the map not yet. -/
theorem RawF.pushed {W w1 : World} {f : Int → Option Value} {vs vq : Value} {m : Nat} (h : RawF W F g d f vs vq m) (x : Nat × ByteArray) {v' : Value} (hown : w1.ownsRow 0 108 2 v' (d.waits.length + 1) (waitsV d.waits ++ writeCells x))
    (hg : W.grownBy w1 vq.ownBlock) (hat : ∀ b, v'.ownBlock = some b → vq.ownBlock = some b ∨ W.heap.size ≤ b) :
    RawF (w1.setCell ⟨g, 1, none⟩ v') (fun b => F b ∨ (W.heap.size ≤ b ∧ b < w1.heap.size)) g { d with waits := d.waits ++ [x] } f vs v' m ∧ Step F (fun b => F b ∨ (W.heap.size ≤ b ∧ b < w1.heap.size)) W (w1.setCell ⟨g, 1, none⟩ v') := by
  have far : ∀ b, b < W.heap.size → vq.ownBlock ≠ some b → w1.heap[b]? = W.heap[b]? := fun b hb hne => hg.block b hb (Ne.symm hne)
  have lt := h.lt
  have hs : Step F (fun b => F b ∨ (W.heap.size ≤ b ∧ b < w1.heap.size)) W w1 := ((Step.refl F W).grown hg h.fq).widen
  have hh : Blk w1 g 72 (diskCells vs vq m d.gone d.fuse.isSome (fuseOf d.fuse)) := (far g (lt g h.fg) h.gq).trans h.head
  have hv : v'.ownBlock ≠ some g := own_blk hown hh (by decide)
  have set : ∀ b, b ≠ g → (w1.setCell ⟨g, 1, none⟩ v').heap[b]? = w1.heap[b]? := fun b hb => heap_setCell_other w1 ⟨g, 1, none⟩ b _ hb
  refine ⟨⟨hh.set 1 v', ?_, ?_, ?_, .inl h.fg, .inl h.fm, fun b hb => .inl (h.fs b hb), fun b hb => ?_, fun b hb => ?_⟩, hs.set (p := ⟨g, 1, none⟩) (.inl h.fg) _⟩
  · exact own_keep h.safe fun b hb => (set b (fun e => h.gs (by rw [hb, e]))).trans (far b (lt b (h.fs b hb)) (h.sq hb))
  · have := own_keep (w' := w1.setCell ⟨g, 1, none⟩ v') hown fun b hb => set b (fun e => hv (by rw [hb, e]))
    rw [waitsV_snoc, List.length_append]
    exact this
  · exact h.last.keep ((set m h.gm.symm).trans (far m (lt m h.fm) h.qm))
  · rcases hat b hb with hb' | hb'
    · exact .inl (h.fq b hb')
    · exact .inr ⟨hb', (hown.lt b hb).2⟩
  · show b < (w1.setCell _ _).heap.size
    rcases hb with hb | hb
    · have := lt b hb; have := hg.size; simp [World.setCell]; omega
    · simpa [World.setCell] using hb.2
/-- Another block of the map. -/
theorem RawF.mapped {f f' : Int → Option Value} {vs vq : Value} {m : Nat} (h : RawF w F g d f vs vq m) (o : Obj) (hm : IsMap { w with heap := w.heap.setIfInBounds m o } m f') :
    RawF { w with heap := w.heap.setIfInBounds m o } F g d f' vs vq m := by
  have far : ∀ b, b ≠ m → (w.heap.setIfInBounds m o)[b]? = w.heap[b]? := fun b hb => by rw [Array.getElem?_setIfInBounds, if_neg (Ne.symm hb)]
  exact ⟨(far g h.gm).trans h.head, own_keep h.safe fun b hb => far b (fun e => h.sm (by rw [hb, e])), own_keep h.wait fun b hb => far b (fun e => h.qm (by rw [hb, e])), hm, h.fg, h.fm, h.fs, h.fq, fun b hb => by simpa using h.lt b hb⟩
theorem put_run {m : Nat} {f : Int → Option Value} (h : IsMap w m f) (i : Int) (v : Value) :
    ∃ o, (Instr.mapUpdate 69 (.map (some m)) (.int .i64 i) v).run Try.prog w = .ok () { w with heap := w.heap.setIfInBounds m o } ∧ IsMap { w with heap := w.heap.setIfInBounds m o } m fun c => if c = i then some v else f c :=
  h.put Try.underlying69 Try.underlying3 i v

theorem lastV_snoc (l : List (Nat × ByteArray)) (k : Nat) (s : ByteArray) (c : Int) : (if c = (k : Int) then some (writeV k s) else lastV l c) = lastV (l ++ [(k, s)]) c := by
  unfold lastV
  rw [lastOf_snoc]
  by_cases h : c = (k : Int)
  · subst h; simp
  · rw [if_neg h, if_neg (Ne.symm h)]
theorem IsDisk.mk' {w : World} {F : Foot} {g : Nat} {d D : Dk} {k : Nat} {s : ByteArray} {vs vq : Value} {m : Nat} (ho : ({ D with waits := d.waits ++ [(k, s)] } : Dk).Ok) (hw : D.waits = d.waits)
    (h : RawF w F g { D with waits := D.waits ++ [(k, s)] } (fun c => if c = (k : Int) then some (writeV k s) else lastV D.waits c) vs vq m) : IsDisk w F g { D with waits := d.waits ++ [(k, s)] } := by
  rw [← hw]
  rw [← hw] at ho
  exact ⟨ho, vs, vq, m, h.head, h.safe, h.wait, h.last.congr (lastV_snoc _ _ _), h.fg, h.fm, h.fs, h.fq, h.lt⟩

set_option maxRecDepth 100000 in
set_option maxHeartbeats 4000000 in
theorem write_ok (h : IsDisk w F g d) (k : Nat) (s : ByteArray) (hi : d.has k) (hs : s.size = 128) (hbear : d.bears = true) (hl : d.waits.length < 16777216) :
    Calls Try.prog 50 #[.pointer (some ⟨g, 0, none⟩), .int .i64 k, .string s] w fun e w' => e = .returned (.int .i64 0) ∧ ∃ F', IsDisk w' F' g { d.burn with waits := d.waits ++ [(k, s)] } ∧ Step F F' w w' := by
  obtain ⟨i0, hi0, hz0, hz1, hz2⟩ := info_parts info_write
  have hok : ({ d.burn with waits := d.waits ++ [(k, s)] } : Dk).Ok := by
    have := h.1.write k s
    unfold Dk.write at this
    rw [if_pos hi, if_pos hs, if_pos hbear] at this
    simpa using this
  have H1 := Lib.hid (has_any h k true (by simp [hi]))
  have H2 := Lib.hid (bears_any h true hbear.symm)
  have H3 := Lib.hid (fun W => cloneS_any s W (by omega))
  have HO := Lib.hid hok
  have hne : ((s.size : Int) != 128) = false := by simp [hs]
  have hbw := Dk.burn_waits d
  rw [← hbw] at hl
  have HW := Lib.hid hbw
  generalize hB : d.burn = D at *
  have HB := Lib.hid hB
  clear hok hi hs hbear hbw hB
  go_enter Try.func50, Try.ntmps50
  go_wp2_with fail
  refine H1.out.mono ?_
  rintro e w1 ⟨rfl, rfl⟩
  go_wp2_with fail
  refine H2.out.mono ?_
  rintro e w1 ⟨rfl, hd1, hs1⟩
  go_wp2_with fail
  refine (H3.out _).mono ?_
  rintro e w2 ⟨rfl, hb2⟩
  go_wp2_with fail
  obtain ⟨ho1, vs, vq, m, r1⟩ := hd1
  have r2 := r1.below hb2
  have xq : vq.ownBlock ≠ some w2.heap.size := fun e => by have := r2.lt _ (r2.fq _ e); omega
  have rW := r2.below ((Below.refl _ _).alloc (Nat.le_refl _) (.cells #[.int .i64 (k : Int), .string s] 108))
  have hbW : Below w1.heap.size w1 (w2.alloc (.cells #[.int .i64 (k : Int), .string s] 108)) := hb2.alloc hb2.size _
  have b0 : Blk (w2.alloc (.cells #[.int .i64 (k : Int), .string s] 108)) w2.heap.size 108 #[.int .i64 (k : Int), .string s] := Blk.new _ _ _
  change Code.wp _ _ _ _ (w2.alloc (.cells #[.int .i64 (k : Int), .string s] 108))
  have hx : (w2.alloc (.cells #[.int .i64 (k : Int), .string s] 108)).heap.size = w2.heap.size + 1 := by simp
  generalize w2.heap.size = x at *
  generalize hWW : w2.alloc (.cells #[.int .i64 (k : Int), .string s] 108) = W at *
  clear hWW hb2 r2
  have b00 := b0.cell 0
  have b01 := b0.cell 1
  obtain ⟨_, c1, c2, _⟩ := rW.cells
  have f1 := rW.frozen 1
  have lg := rW.lt g rW.fg
  have lx : x < W.heap.size := by omega
  have nq := rW.gq
  have hxh := Lib.hid hx
  clear hx
  have hbk : W.frozen? ⟨g, 1, none⟩ = false := f1
  go_region_law
    ((refine step_append_lies _ (by rfl) _ _ _ (by rfl) 0 108 i0 _ 2 24 Try.underlying70 hi0 hz0 hz1 hz2 rfl (by omega) vq _ _ (by rfl) ((rW.wait.alloc _).drew)
        ⟨W.heap.size, 0, none⟩ 1 1 [.int .i64 k, .string s] (by rfl) (by rfl) (World.news_of_block (cs := #[.int .i64 k, .string s]) (t := 108) (fr := (0, 0)) (heap_alloc_new W _)) (by simp [Value.oneCell'])
        (by omega) (by simp only [maxLen]; omega) (by omega) (by simp) (W.heap.size + 1) (by simp) ?_; intro gg cap w3 hown hgrow hat hlt; have lg3 : g < (W.drew.alloc (.cells #[.int .i64 (k : Int), .string s] 108)).heap.size := Nat.lt_of_lt_of_le lg (by simp); have f3 : w3.frozen? ⟨g, 1, none⟩ = false := (hgrow.frozen_far ⟨g, 1, none⟩ lg3 (Ne.symm nq)).trans ((World.frozen?_alloc_old W.drew _ _ (Nat.ne_of_lt lg)).trans f1); have c3 : w3.cell? ⟨g, 1, none⟩ = some vq := (hgrow.cell_far ⟨g, 1, none⟩ lg3 (Ne.symm nq)).trans ((World.cell?_alloc_lt W.drew _ _ lg).trans c1)))
  all_goals
    obtain ⟨r4, s4⟩ := ((rW.below ((Below.refl _ _).alloc (Nat.le_refl _) (.cells #[.int .i64 (k : Int), .string s] 108))).drew).pushed (k, s) hown hgrow (fun b hb => by
      simp only [Value.ownBlock, Option.some.injEq] at hb
      subst hb
      rcases hat with hat | hat
      · exact .inl hat
      · right; show (W.alloc _).heap.size ≤ gg; simp; omega)
    have c4 := r4.cells.2.2.1
    have bx : Blk (w3.setCell ⟨g, 1, none⟩ (.slice (some ⟨gg, 0, none⟩) (D.waits.length + 1) cap)) x 108 #[.int .i64 (k : Int), .string s] := by
      refine ((heap_setCell_other w3 ⟨g, 1, none⟩ x _ ?_).trans (hgrow.block x ?_ (Ne.symm xq))).trans ((b0.alloc _).drew)
      · rintro rfl
        have := rW.head
        unfold Blk at this b0
        rw [b0] at this
        simp [diskCells] at this
      · exact Nat.lt_of_lt_of_le lx (by simp)
    have b40 := bx.cell 0
    have b41 := bx.cell 1
    obtain ⟨o, hrun, hm⟩ := put_run r4.last.drew (k : Int) (writeV k s)
    unfold writeV at hrun
    have r5 := (r4.drew).mapped o hm
    have s5 := (s4.drew).setObj r4.fm o
    have hfin := IsDisk.mk' HO.out HW.out r5
    have sfin := (hs1.trans ((Step.refl F w1).more hbW)).trans (((Step.refl F W).alloc _).drew.trans s5)
    have R5 := Lib.hid hfin
    have S5 := Lib.hid sfin
    clear hfin sfin r4 r5 s4 s5 hm bx hgrow hat hlt lg3 f3 c3 hown b0 b00 b01 c1 f1 hbk
    generalize w3.setCell ⟨g, 1, none⟩ (.slice (some ⟨gg, 0, none⟩) (D.waits.length + 1) cap) = w4 at *
    go_wp2_with fail
    go_still_tail 6, (by kernel_rfl)
    go_wp2
    go_ret
    exact ⟨rfl, _, R5.out, S5.out⟩

set_option maxRecDepth 100000 in
set_option maxHeartbeats 1000000 in
theorem write_range (h : IsDisk w F g d) (i : Int) (s : ByteArray) (hi : ¬ d.has i) :
    Calls Try.prog 50 #[.pointer (some ⟨g, 0, none⟩), .int .i64 i, .string s] w fun e w' => e = .returned (.int .i64 2) ∧ w = w' := by
  have H1 := Lib.hid (has_any h i false (by simp [hi]))
  clear h hi
  go_enter Try.func50, Try.ntmps50
  go_wp2_with fail
  refine H1.out.mono ?_
  rintro e w1 ⟨rfl, rfl⟩
  go_wp2
  go_ret
  exact ⟨rfl, rfl⟩
set_option maxRecDepth 100000 in
set_option maxHeartbeats 1000000 in
theorem write_size (h : IsDisk w F g d) (i : Int) (s : ByteArray) (hi : d.has i) (hs : s.size ≠ 128) :
    Calls Try.prog 50 #[.pointer (some ⟨g, 0, none⟩), .int .i64 i, .string s] w fun e w' => e = .returned (.int .i64 1) ∧ w = w' := by
  have H1 := Lib.hid (has_any h i true (by simp [hi]))
  have hne : ((s.size : Int) != 128) = true := by simp; omega
  clear h hi hs
  go_enter Try.func50, Try.ntmps50
  go_wp2_with fail
  refine H1.out.mono ?_
  rintro e w1 ⟨rfl, rfl⟩
  go_wp2
  go_ret
  exact ⟨rfl, rfl⟩
set_option maxRecDepth 100000 in
set_option maxHeartbeats 1000000 in
theorem write_dead (h : IsDisk w F g d) (i : Int) (s : ByteArray) (hi : d.has i) (hs : s.size = 128) (hb : d.bears = false) :
    Calls Try.prog 50 #[.pointer (some ⟨g, 0, none⟩), .int .i64 i, .string s] w fun e w' => e = .returned (.int .i64 4) ∧ IsDisk w' F g d.burn ∧ Step F F w w' := by
  have H1 := Lib.hid (has_any h i true (by simp [hi]))
  have H2 := Lib.hid (bears_any h false hb.symm)
  have hne : ((s.size : Int) != 128) = false := by simp [hs]
  clear h hi hs hb
  go_enter Try.func50, Try.ntmps50
  go_wp2_with fail
  refine H1.out.mono ?_
  rintro e w1 ⟨rfl, rfl⟩
  go_wp2_with fail
  refine H2.out.mono ?_
  rintro e w1 ⟨rfl, hd, hs⟩
  go_wp2
  go_ret
  exact ⟨rfl, hd, hs⟩
set_option maxRecDepth 100000 in
theorem write_nil (i : Int) (s : ByteArray) (w : World) :
    Calls Try.prog 50 #[.pointer none, .int .i64 i, .string s] w fun e w' => e = .returned (.int .i64 10) ∧ w = w' := by
  go_enter Try.func50, Try.ntmps50
  go_wp2
  go_ret
  exact ⟨rfl, rfl⟩
theorem write_any (h : IsDisk w F g d) (i : Int) (s : ByteArray) (hl : d.waits.length < 16777216) :
    Calls Try.prog 50 #[.pointer (some ⟨g, 0, none⟩), .int .i64 i, .string s] w fun e w' => e = .returned (.int .i64 (d.writeE i s)) ∧ ∃ F', IsDisk w' F' g (d.write i s) ∧ Step F F' w w' := by
  unfold Dk.writeE Dk.write
  by_cases hi : d.has i
  · rw [if_pos hi, if_pos hi]
    by_cases hs : s.size = 128
    · rw [if_pos hs, if_pos hs]
      cases hb : d.bears with
      | true =>
        obtain ⟨k, rfl⟩ := Int.eq_ofNat_of_zero_le hi.1
        exact write_ok h k s hi hs hb hl
      | false => exact (write_dead h i s hi hs hb).mono fun e w' k => ⟨k.1, F, k.2⟩
    · rw [if_neg hs, if_neg hs]
      exact (write_size h i s hi hs).mono fun e w' ⟨k1, k2⟩ => ⟨k1, F, k2 ▸ h, k2 ▸ Step.refl F w⟩
  · rw [if_neg hi, if_neg hi]
    exact (write_range h i s hi).mono fun e w' ⟨k1, k2⟩ => ⟨k1, F, k2 ▸ h, k2 ▸ Step.refl F w⟩
end
end Go.Proofs.Ytpcfhpffbogjmaa

/- Package disk: what waits is made safe. -/
namespace Go.Proofs.Ytpcfhpffbogjmaa
open Go.RowKit

/-- Some of the writes are settled; all of them wait still. -/
def Dk.part (d : Dk) (f : Nat → Nat) (k : Nat) : Dk := { d with safe := settleTo f d.waits d.safe k }
theorem Dk.Ok.part {d : Dk} (h : d.Ok) (f : Nat → Nat) (k : Nat) : (d.part f k).Ok :=
  ⟨by unfold Dk.part; rw [settleTo_len]; exact h.pos, by unfold Dk.part; rw [settleTo_len]; exact h.le, Dk.settleTo_sect h.sect (fun x hx => (h.wait x hx).2) _, fun x hx => by
    have := h.wait x hx
    unfold Dk.part
    rw [settleTo_len]
    exact this, h.fuse⟩
theorem strsV_set (l : List ByteArray) (k : Nat) (s : ByteArray) : (strsV l).set k (.string s) = strsV (l.set k s) := by simp [strsV, List.map_set]

section
variable {w : World} {F : Foot} {g : Nat} {d : Dk}
/-- A sector is written where it is safe. -/
theorem RawF.stored {f : Int → Option Value} {b cap : Nat} {vq : Value} {m n : Nat} (h : RawF w F g d f (.slice (some ⟨b, 0, none⟩) n cap) vq m) (hn : n = d.safe.length) (k : Nat) (s : ByteArray) :
    RawF (w.setCell ⟨b, k, none⟩ (.string s)) F g { d with safe := d.safe.set k s } f (.slice (some ⟨b, 0, none⟩) n cap) vq m ∧ Step F F w (w.setCell ⟨b, k, none⟩ (.string s)) := by
  subst hn
  have set : ∀ c, c ≠ b → (w.setCell ⟨b, k, none⟩ (.string s)).heap[c]? = w.heap[c]? := fun c hc => heap_setCell_other w ⟨b, k, none⟩ c _ hc
  have hb : (Value.slice (some ⟨b, 0, none⟩) d.safe.length cap).ownBlock = some b := rfl
  have so := (h.safe.stored k (.string s)).1
  rw [strsV_set] at so
  refine ⟨⟨(set g fun e => h.gs (by rw [hb, e])).trans h.head, ?_, own_keep h.wait fun c hc => set c (fun e => h.sq hb (by rw [hc, e])), h.last.keep (set m fun e => h.sm (by rw [hb, e])), h.fg, h.fm, h.fs, h.fq, fun c hc => by simpa [World.setCell] using h.lt c hc⟩, (Step.refl F w).set (p := ⟨b, k, none⟩) (h.fs b hb) _⟩
  have e : (d.safe.set k s).length = d.safe.length := List.length_set ..
  show World.ownsRow _ _ _ _ _ (d.safe.set k s).length _
  rw [e]
  exact so

theorem add_mul (b k : Nat) : (⟨b, 0, none⟩ : Addr).add k = ⟨b, k, none⟩ := by unfold Addr.add; split <;> simp_all

set_option maxRecDepth 100000 in
set_option maxHeartbeats 4000000 in
theorem sync_ok (h : IsDisk w F g d) (hbear : d.bears = true) :
    Calls Try.prog 34 #[.pointer (some ⟨g, 0, none⟩)] w fun e w' => e = .returned (.int .i64 0) ∧ IsDisk w' F g d.sync ∧ Step F F w w' := by
  have H2 := Lib.hid (bears_any h true hbear.symm)
  have hsync : d.sync = { d.burn.part (fun _ => 1) d.burn.waits.length with waits := [] } := by
    unfold Dk.sync Dk.part Dk.settled
    rw [if_pos hbear, Dk.burn_waits, Dk.burn_safe]
  rw [hsync]
  clear hsync hbear h
  generalize d.burn = D at *
  go_enter Try.func34, Try.ntmps34
  go_wp2_with fail
  refine H2.out.mono ?_
  rintro e w1 ⟨rfl, ⟨ho, vs, vq, m, r⟩, s1⟩
  obtain ⟨b, cap, rfl, hcap⟩ := own_head ho r.safe
  have hn := ho.le
  rcases own_any r.wait with ⟨rfl, h0, _⟩ | ⟨q, capq, rfl, hq, hqm⟩
  · obtain ⟨_, c1, _⟩ := r.cells
    have hd : IsDisk w1 F g (D.part (fun _ => 1) D.waits.length) := by rw [h0]; exact ⟨ho, _, _, _, r⟩
    have HD := Lib.hid hd
    clear r ho h0 hd
    go_wp2
    refine wp_loop_rounds 1 ?_
    rw [rounds_succ]
    go_wp2_with fail
    refine (dropWaits_any HD.out).mono ?_
    rintro e w2 ⟨rfl, hd2, s2⟩
    go_wp2
    go_ret
    exact ⟨rfl, hd2, s1.trans s2⟩
  · obtain ⟨_, c1, _⟩ := r.cells
    have hl : D.waits.length ≤ 9223372036854775807 := by unfold maxLen at hqm; omega
    have hin : ∀ k (hk : k < D.waits.length), D.waits[k].1 < D.safe.length := fun k hk => (ho.wait _ (List.getElem_mem hk)).1
    have HIN := Lib.hid hin
    have HO := Lib.hid ho
    clear hin ho
    have HR : Hid (RawF w1 F g (D.part (fun _ => 1) 0) (lastV D.waits) (.slice (some ⟨b, 0, none⟩) D.safe.length cap) (.slice (some ⟨q, 0, none⟩) D.waits.length capq) m) := r
    clear r
    have hlen : ∀ k, (D.part (fun _ => 1) k).safe.length = D.safe.length := fun k => settleTo_len _ _ _ _
    have HL := Lib.hid hlen
    clear hlen
    go_wp2
    go_loopw [17] (fun i wr => ∃ k : Nat, k ≤ D.waits.length ∧ i = .int .i64 k ∧ RawF wr F g (D.part (fun _ => 1) k) (lastV D.waits) (.slice (some ⟨b, 0, none⟩) D.safe.length cap) (.slice (some ⟨q, 0, none⟩) D.waits.length capq) m ∧ Step F F w1 wr) (fun i _ => D.waits.length - (intOf i).toNat)
    case atStart => exact ⟨0, Nat.zero_le _, rfl, HR.out, Step.refl _ _⟩
    case round =>
      obtain ⟨k, hk, rfl, hr, hst⟩ := hrel
      clear c1
      by_cases hlt : k < D.waits.length
      · have hkl := hlt
        obtain ⟨e0, e1⟩ := waitsV_at D.waits k hkl
        have hw := hr.wait
        rw [show (D.part (fun _ => 1) k).waits = D.waits from rfl] at hw
        have q0 := (hw.cellAt (k * 2) (by omega)).trans e0
        have q1 := (hw.cellAt (k * 2 + 1) (by omega)).trans e1
        obtain ⟨c0, _⟩ := hr.cells
        have hi := HIN.out k hkl
        have hx0 : (0 : Int) ≤ (D.waits[k].1 : Int) := Int.natCast_nonneg _
        have hx1 : (D.waits[k].1 : Int) < (D.safe.length : Int) := by omega
        generalize hj : D.waits[k].1 = j at *
        generalize hs : D.waits[k].2 = s at *
        have HJ := Lib.hid hj
        have HS := Lib.hid hs
        clear hj hs hw e0 e1
        go_wp2_with fail
        have rW := hr.below ((Below.refl _ _).alloc (Nat.le_refl _) (.cells #[.int .i64 (j : Int), .string s] 108))
        have sW := hst.alloc (.cells #[.int .i64 (j : Int), .string s] 108)
        have bx : Blk (wr.alloc (.cells #[.int .i64 (j : Int), .string s] 108)) wr.heap.size 108 #[.int .i64 (j : Int), .string s] := Blk.new _ _ _
        generalize wr.heap.size = x at *
        generalize wr.alloc (.cells #[.int .i64 (j : Int), .string s] 108) = W at *
        have b0 := bx.cell 0
        have b1 := bx.cell 1
        obtain ⟨d0, _⟩ := rW.cells
        have hl1 : (D.part (fun _ => 1) k).safe.length = D.safe.length := HL.out k
        have hsafe := rW.safe
        rw [hl1] at hsafe
        have e1 := hsafe.cellAt j (by omega)
        obtain ⟨u, hu⟩ : ∃ u, (strsV (D.part (fun _ => 1) k).safe)[j]? = some u := ⟨_, List.getElem?_eq_getElem (by rw [strsV_len, hl1]; exact hi)⟩
        rw [hu] at e1
        have f1 := hsafe.frozenAt j
        obtain ⟨r2, s2⟩ := rW.drew.stored hl1.symm j s
        have hpart : { D.part (fun _ => 1) k with safe := (D.part (fun _ => 1) k).safe.set j s } = D.part (fun _ => 1) (k + 1) := by
          unfold Dk.part
          rw [settleTo_succ _ _ _ _ hlt]
          simp [settleOne, HJ.out, HS.out]
        have R2 : Hid (RawF (W.drew.setCell ⟨b, j, none⟩ (.string s)) F g (D.part (fun _ => 1) (k + 1)) (lastV D.waits) (.slice (some ⟨b, 0, none⟩) D.safe.length cap) (.slice (some ⟨q, 0, none⟩) D.waits.length capq) m) := by rw [← hpart]; exact r2
        have S2 := Lib.hid (sW.drew.trans s2)
        clear r2 s2 hpart hsafe hu hl1 hr rW sW bx c0 q0 q1
        go_still_tail 9, (by kernel_rfl)
        go_wp2
        go_roundw
        case rel => exact ⟨k + 1, by omega, by go_num, R2.out, S2.out⟩
        case measure => simp [intOf]; omega
      · obtain rfl : k = D.waits.length := by omega
        go_wp2_with fail
        refine (dropWaits_any (⟨HO.out.part _ _, _, _, _, hr⟩ : IsDisk wr F g (D.part (fun _ => 1) D.waits.length))).mono ?_
        rintro e w2 ⟨rfl, hd2, s2⟩
        go_wp2
        go_ret
        exact ⟨rfl, hd2, (s1.trans hst).trans s2⟩
set_option maxRecDepth 100000 in
set_option maxHeartbeats 1000000 in
theorem sync_dead (h : IsDisk w F g d) (hb : d.bears = false) :
    Calls Try.prog 34 #[.pointer (some ⟨g, 0, none⟩)] w fun e w' => e = .returned (.int .i64 4) ∧ IsDisk w' F g d.burn ∧ Step F F w w' := by
  have H2 := Lib.hid (bears_any h false hb.symm)
  clear h hb
  go_enter Try.func34, Try.ntmps34
  go_wp2_with fail
  refine H2.out.mono ?_
  rintro e w1 ⟨rfl, hd, hs⟩
  go_wp2
  go_ret
  exact ⟨rfl, hd, hs⟩
set_option maxRecDepth 100000 in
theorem sync_nil (w : World) : Calls Try.prog 34 #[.pointer none] w fun e w' => e = .returned (.int .i64 10) ∧ w = w' := by
  go_enter Try.func34, Try.ntmps34
  go_wp2
  go_ret
  exact ⟨rfl, rfl⟩
theorem sync_any (h : IsDisk w F g d) :
    Calls Try.prog 34 #[.pointer (some ⟨g, 0, none⟩)] w fun e w' => e = .returned (.int .i64 d.syncE) ∧ IsDisk w' F g d.sync ∧ Step F F w w' := by
  unfold Dk.syncE
  cases hb : d.bears with
  | true => exact sync_ok h hb
  | false =>
    have e : d.sync = d.burn := by unfold Dk.sync; rw [hb]; rfl
    rw [e]
    exact sync_dead h hb
end
end Go.Proofs.Ytpcfhpffbogjmaa

/- Package disk: a crash. -/
namespace Go.Proofs.Ytpcfhpffbogjmaa
open Go.RowKit

/-- Bytes as values. -/
def byteVs (l : List UInt8) : List Value := l.map fun b => .int .u8 b.toNat
theorem byteVs_len (l : List UInt8) : (byteVs l).length = l.length := by simp [byteVs]
/-- A slice that lies apart from what is written reads as it did. -/
theorem Reads.step {w w' : World} {v : Value} {vs : List Value} {F F' : Foot} (h : Reads w v vs) (hs : Step F F' w w') (hn : vs ≠ [] → ∀ b, v.ownBlock = some b → ¬ F b) : Reads w' v vs := by
  obtain ⟨a, cap, rfl, hc, hx⟩ := h
  refine ⟨a, cap, rfl, hc, fun j x hj => ?_⟩
  obtain ⟨b, off, rfl, h⟩ := hx j x hj
  have hlt := World.block_lt_of_cell? w ⟨b, off + j, none⟩ h
  exact ⟨b, off, rfl, (World.cell?_of_block (a := ⟨b, off + j, none⟩) (hs.block b hlt (hn (fun e => by rw [e] at hj; simp at hj) b rfl))).trans h⟩

section
variable {w : World} {F : Foot} {g : Nat} {d : Dk}
/-- Another head, all else as it was. -/
theorem RawF.reheaded {w' : World} {f : Int → Option Value} {vs vq : Value} {m : Nat} (h : RawF w F g d f vs vq m) {gone : Bool} {k : Option Nat} (hb : Blk w' g 72 (diskCells vs vq m gone k.isSome (fuseOf k)))
    (far : ∀ b, b ≠ g → w'.heap[b]? = w.heap[b]?) (hs : w.heap.size ≤ w'.heap.size) : RawF w' F g { d with gone := gone, fuse := k } f vs vq m :=
  ⟨hb, own_keep h.safe fun b hb => far b (fun e => h.gs (by rw [hb, e])), own_keep h.wait fun b hb => far b (fun e => h.gq (by rw [hb, e])), h.last.keep (far m h.gm.symm), h.fg, h.fm, h.fs, h.fq, fun b hb => Nat.lt_of_lt_of_le (h.lt b hb) hs⟩
/-- The power is there again. -/
theorem reset (h : IsDisk w F g d) : IsDisk (((w.setCell ⟨g, 3, none⟩ (.bool false)).setCell ⟨g, 4, none⟩ (.bool false)).setCell ⟨g, 5, none⟩ (.int .i64 0)) F g { d with gone := false, fuse := none } ∧
    Step F F w (((w.setCell ⟨g, 3, none⟩ (.bool false)).setCell ⟨g, 4, none⟩ (.bool false)).setCell ⟨g, 5, none⟩ (.int .i64 0)) := by
  obtain ⟨ho, vs, vq, m, r⟩ := h
  have hb := ((r.head.set 3 (.bool false)).set 4 (.bool false)).set 5 (.int .i64 0)
  have far : ∀ (w : World) (i : Nat) (v : Value) b, b ≠ g → (w.setCell ⟨g, i, none⟩ v).heap[b]? = w.heap[b]? := fun w i v b hb => heap_setCell_other w ⟨g, i, none⟩ b v hb
  refine ⟨⟨⟨ho.pos, ho.le, ho.sect, ho.wait, fun f hf => (by cases hf)⟩, vs, vq, m, r.reheaded (gone := false) (k := none) hb (fun b h => (far _ 5 _ b h).trans ((far _ 4 _ b h).trans (far _ 3 _ b h))) (by simp [World.setCell])⟩, ?_⟩
  exact ((step_set r.fg).set (p := ⟨g, 4, none⟩) r.fg _).set (p := ⟨g, 5, none⟩) r.fg _

end
end Go.Proofs.Ytpcfhpffbogjmaa

/- math/bits.Mul of 1 and a small number; slices.Repeat of one text. -/
namespace Go.Proofs.Ytpcfhpffbogjmaa
open Go.RowKit

set_option maxRecDepth 100000 in
set_option maxHeartbeats 1000000 in
theorem mul64_core (n : Int) (h0 : 0 ≤ n) (h1 : n < 4294967296) (ha : bits .and .u64 n 4294967295 = n) (hs : n / 4294967296 = 0) (hc : bits .and .u64 1 4294967295 = 1) (hz : bits .and .u64 0 4294967295 = 0) (w : World) :
    Calls Try.prog 60 #[.int .u64 1, .int .u64 n] w fun e w' => e = .returned (.tuple #[.int .u64 0, .int .u64 n]) ∧ w = w' := by
  go_enter Try.func60, Try.ntmps60
  go_wp2
  go_ret2
  exact ⟨rfl, rfl⟩
theorem mul64_one (n : Nat) (h : n < 4294967296) (w : World) :
    Calls Try.prog 60 #[.int .u64 1, .int .u64 n] w fun e w' => e = .returned (.tuple #[.int .u64 0, .int .u64 n]) ∧ w = w' := by
  have and : ∀ m : Nat, m < 4294967296 → bits .and .u64 (m : Int) 4294967295 = m := fun m hm => by
    have h1 := (bits_nat .u64 62 (by decide) (fun n h0 h1 => by rw [IntKind.wrap_u64]; omega) m 4294967295 (by omega) (by omega)).1
    rw [show (4294967295 : Nat) = 2 ^ 32 - 1 from rfl, Nat.and_two_pow_sub_one_eq_mod, Nat.mod_eq_of_lt (by omega)] at h1
    simpa using h1
  exact mul64_core n (by omega) (by omega) (and n h) (by omega) (and 1 (by omega)) (and 0 (by omega)) w
set_option maxRecDepth 100000 in
set_option maxHeartbeats 1000000 in
theorem mul_one (n : Nat) (h : n ≤ 512) (w : World) :
    Calls Try.prog 45 #[.int .u64 1, .int .u64 n] w fun e w' => e = .returned (.tuple #[.int .u64 0, .int .u64 n]) ∧ w = w' := by
  have h0 : (0 : Int) ≤ n := Int.natCast_nonneg _
  have H := Lib.hid (fun W => mul64_one n (by omega) W)
  go_enter Try.func45, Try.ntmps45
  go_wp2_with fail
  refine (H.out _).mono ?_
  rintro e w1 ⟨rfl, rfl⟩
  go_wp2
  go_ret2
  exact ⟨rfl, rfl⟩

/-- A row of n texts, the first k of which are s. -/
def filledL (s : ByteArray) (n k : Nat) : List Value := List.replicate k (Value.string s) ++ List.replicate (n - k) (Value.string ⟨#[]⟩)
def filled (s : ByteArray) (n k : Nat) : Array Value := (filledL s n k).toArray
theorem filled_size (s : ByteArray) {n k : Nat} (h : k ≤ n) : (filled s n k).size = n := by simp [filled, filledL]; omega
theorem info_string : (Try.prog.info? 9).map (fun i => (i.zero, i.size, i.bytes)) = some (some (.string ⟨#[]⟩), 1, 16) := by kernel_rfl
theorem filled_copy (s : ByteArray) (n k m : Nat) (_h : k + m ≤ n) : ((filled s n k).toList.take k ++ List.replicate m (Value.string s) ++ (filled s n k).toList.drop (k + m)).toArray = filled s n (k + m) := by
  unfold filled filledL
  have e1 : (List.replicate k (Value.string s) ++ List.replicate (n - k) (Value.string ⟨#[]⟩)).take k = List.replicate k (Value.string s) := by
    rw [List.take_append_of_le_length (by simp)]; simp
  have e2 : (List.replicate k (Value.string s) ++ List.replicate (n - k) (Value.string ⟨#[]⟩)).drop (k + m) = List.replicate (n - (k + m)) (Value.string ⟨#[]⟩) := by
    rw [List.drop_append]
    simp
    omega
  simp only [e1, e2]
  rw [ ← List.replicate_append_replicate (n := k) (m := m)]

theorem addAt (b k j : Nat) : (⟨b, k, none⟩ : Addr).add j = ⟨b, k + j, none⟩ := by unfold Addr.add; split <;> simp_all
set_option maxRecDepth 100000 in
set_option maxHeartbeats 4000000 in
theorem repeat_one (s : ByteArray) (x n : Nat) (w : World) (hx : w.cell? ⟨x, 0, none⟩ = some (.string s)) (h1 : 1 ≤ n) (hn : n ≤ 512) :
    Calls Try.prog 26 #[.slice (some ⟨x, 0, none⟩) 1 1, .int .i64 n] w fun e w' => ∃ g, e = .returned (.slice (some ⟨g, 0, none⟩) n n) ∧ Blk w' g 9 (filled s n n) ∧ w.heap.size ≤ g ∧ Below w.heap.size w w' := by
  obtain ⟨i, hi, hz, hs1, hs2⟩ := info_parts info_string
  have HM := Lib.hid (fun W => mul_one n hn W)
  have hlx := World.block_lt_of_cell? w _ hx
  have hmk : ∀ W : World, (Instr.makeSlice 66 (.int .i64 (n : Int)) (.int .i64 (n : Int))).run Try.prog W = .ok (.slice (some ⟨W.heap.size, 0, none⟩) n n) (W.alloc (.cells (filled s n 0) 9)) := fun W => by
    have h := run_make (P := Try.prog) W 66 9 i (.string ⟨#[]⟩) Try.underlying66 hi hz .i64 .i64 (n : Int) (n : Int) (by omega) (by omega) (by rw [hs2]; omega) (by omega)
    have e : madeCells (Value.string ⟨#[]⟩).cells (((n : Nat) : Int).toNat * i.size) = filled s n 0 := by
      apply Array.ext'
      rw [hs1]
      simp only [Int.toNat_natCast, Nat.mul_one]
      rw [show (Value.string ⟨#[]⟩).cells = #[Value.string ⟨#[]⟩] from rfl, toList_madeCells_one]
      simp [filled, filledL]
    rw [e] at h
    simpa using h
  have b0 : Blk (w.alloc (.cells (filled s n 0) 9)) w.heap.size 9 (filled s n 0) := Blk.new _ _ _
  have hB0 : Below w.heap.size w (w.alloc (.cells (filled s n 0) 9)) := (Below.refl _ _).alloc (Nat.le_refl _) _
  have hx0 := (hB0.cell (p := ⟨x, 0, none⟩) hlx).trans hx
  have hinf : (Try.prog.info? 9).map (·.size) = some 1 := by kernel_rfl
  have hcp := run_copy_row (P := Try.prog) _ 66 66 3 9 w.heap.size 0 n n ⟨x, 0, none⟩ 1 1 (filled s n 0) 9 [.string s] Try.underlying66 hinf b0 (by simp only [List.length_singleton, Nat.min_def]; split <;> omega)
    (fun j v hj => by
      match j, hj with
      | 0, hj => simp at hj; subst hj; rw [addAt]; exact hx0) (by rw [filled_size s (Nat.zero_le _)]; simp; omega) (by simp [Value.oneCell'])
  have hfc := filled_copy s n 0 1 (by omega)
  simp only [Nat.zero_add, List.replicate_one] at hfc
  simp only [List.length_singleton, Nat.zero_add] at hcp
  rw [hfc] at hcp
  have b1 := b0.setRow (filled s n 1)
  have hB1 := below_setRow hB0 (Nat.le_refl _) (filled s n 1)
  have HC := fun (W : World) (k m : Nat) (hb : Blk W w.heap.size 9 (filled s n k)) (hm : m ≤ k) (j : Nat) (v : Value) (hj : (List.replicate m (Value.string s))[j]? = some v) => (show W.cell? ((⟨w.heap.size, 0, none⟩ : Addr).add j) = some v from by
      rw [List.getElem?_replicate] at hj
      split at hj
      · rename_i hjm
        rw [addAt, hb.cell, ← hj]
        simp [filled, filledL, List.getElem?_append, show j < k by omega]
      · cases hj)
  have H1 := Lib.hid (show _ ∧ _ from ⟨b1, hB1⟩)
  have HC' := Lib.hid HC
  clear HC hfc b0 hB0 hx0 b1 hB1 hx
  have h0 : (0 : Int) ≤ n := Int.natCast_nonneg _
  have hgt : decide ((9223372036854775807 : Int) < (n : Int)) = false := by simp; omega
  go_enter Try.func26, Try.ntmps26
  go_wp2_with fail
  refine (HM.out _).mono ?_
  rintro e w1 ⟨rfl, rfl⟩
  go_wp2_with fail
  go_loopw [8] (fun v wr => ∃ k : Nat, 1 ≤ k ∧ k ≤ n ∧ v = .int .i64 k ∧ Blk wr w.heap.size 9 (filled s n k) ∧ Below w.heap.size w wr) (fun v _ => n - (intOf v).toNat)
  case atStart => exact ⟨1, Nat.le_refl _, h1, rfl, H1.out⟩
  case round =>
    obtain ⟨k, hk1, hkn, rfl, hb, hB⟩ := hrel
    clear hcp hmk
    by_cases hlt : k < n
    · obtain ⟨m, hm⟩ : ∃ m, m = Nat.min k (n - k) := ⟨_, rfl⟩
      have hm1 : 1 ≤ m := by rw [hm]; simp only [Nat.min_def]; split <;> omega
      have hkm : k + m ≤ n := by rw [hm]; simp only [Nat.min_def]; split <;> omega
      have hmk : m ≤ k := by rw [hm]; exact Nat.min_le_left _ _
      have HM := Lib.hid hm
      have HB := Lib.hid hb
      have HBL := Lib.hid hB
      have HF := Lib.hid (filled_copy s n k m hkm)
      have hkI : (k : Int) < n := by omega
      have hne : ¬ n = k := by omega
      have hk0 : (0 : Int) ≤ k := Int.natCast_nonneg _
      have hsub : ((n : Int) - k).toNat = n - k := by omega
      clear hm hb hB
      go_wp2_with fail
      refine' wp_region_free [0] 7 [.is (.int .i64 (k : Int)), .is _, .is _, .is _, .is _, .is _, .is _] (by kernel_rfl) (by kernel_rfl) (by kernel_rfl) (by kernel_rfl) (by kernel_rfl) rfl ⟨rfl, trivial⟩ (fun _ _ _ _ _ h => h) ?main
      case main =>
        iterate 7
          refine obs_is (fun w2 hE2 _ => ?_) ?_
          · go_wp2
            exact post_is (Below.refl _ _)
          simp only [Act.put, List.setIfInBounds_toArray, List.set_cons_zero, List.set_cons_succ]
        refine obs_end fun w3 hE3 _ => ?_
        have hb := HB.out.drew.keep hE3 HB.out.lt
        have hcp := run_copy_row (P := Try.prog) w3 66 66 3 9 w.heap.size k (n - k) (n - k) ⟨w.heap.size, 0, none⟩ k n (filled s n k) 9 (List.replicate m (.string s)) Try.underlying66 hinf hb (by rw [List.length_replicate]; exact HM.out)
          (HC'.out w3 k m hb hmk) (by rw [filled_size s (by omega), List.length_replicate]; exact hkm) (fun v hv => by rw [List.eq_of_mem_replicate hv]; rfl)
        rw [List.length_replicate, HF.out] at hcp
        have hb2 := Lib.hid (hb.setRow (filled s n (k + m)))
        have hB2 := Lib.hid (below_setRow (HBL.out.drew.trans (hE3.mono (by have := HBL.out.size; exact this))) (Nat.le_refl _) (filled s n (k + m)))
        clear hb
        go_wp2
        go_roundw
        case rel => exact ⟨k + m, by omega, hkm, by go_num, hb2.out, hB2.out⟩
        case measure => simp [intOf]; omega
    · obtain rfl : k = n := by omega
      go_wp2
      go_ret
      exact ⟨_, rfl, hb, Nat.le_refl _, hB⟩
end Go.Proofs.Ytpcfhpffbogjmaa

/- Package disk: a new one. -/
namespace Go.Proofs.Ytpcfhpffbogjmaa
open Go.RowKit

theorem strsV_rep (s : ByteArray) (n : Nat) : (filled s n n).toList = strsV (List.replicate n s) := by simp [filled, filledL, strsV]

set_option maxRecDepth 100000 in
set_option maxHeartbeats 1000000 in
theorem new_no (n : Int) (w : World) (h : n < 1 ∨ 512 < n) :
    Calls Try.prog 13 #[.int .i64 n] w fun e w' => e = .returned (.tuple #[.pointer none, .int .i64 1]) ∧ w = w' := by
  rcases h with h | h
  · have h1 : decide (n < 1) = true := by simpa using h
    go_enter Try.func13, Try.ntmps13
    go_wp2
    go_ret2
    exact ⟨rfl, rfl⟩
  · have h1 : decide (n < 1) = false := by simp; omega
    have h2 : decide (512 < n) = true := by simpa using h
    go_enter Try.func13, Try.ntmps13
    go_wp2
    go_ret2
    exact ⟨rfl, rfl⟩
/-- The blocks of a new disk. -/
theorem new_raw {w w1 : World} {s n : Nat} (hs : Blk w1 s 9 (filled zero128 n n)) (hB : Below w.heap.size w w1) (hge : w.heap.size ≤ s) (h1 : 0 < n) (hn : n ≤ 512) :
    IsDisk ((w1.alloc (.map #[] 0)).alloc (.cells (diskCells (.slice (some ⟨s, 0, none⟩) n n) (.slice none 0 0) w1.heap.size false false 0) 72)) (fun b => w.heap.size ≤ b ∧ b < w1.heap.size + 2) (w1.heap.size + 1) (Dk.new n) ∧
      Below w.heap.size w ((w1.alloc (.map #[] 0)).alloc (.cells (diskCells (.slice (some ⟨s, 0, none⟩) n n) (.slice none 0 0) w1.heap.size false false 0) 72)) := by
  have hsz := hB.size
  have e1 : (w1.alloc (.map #[] 0)).heap.size = w1.heap.size + 1 := by simp
  have hm : IsMap (w1.alloc (.map #[] 0)) w1.heap.size fun _ => none := IsMap.made w1
  have hg := Blk.new (w1.alloc (.map #[] 0)) 72 (diskCells (.slice (some ⟨s, 0, none⟩) n n) (.slice none 0 0) w1.heap.size false false 0)
  rw [e1] at hg
  have hso : w1.ownsRow 0 9 1 (.slice (some ⟨s, 0, none⟩) n n) n (strsV (List.replicate n zero128)) :=
    ⟨by simp [strsV], .inr ⟨s, n, filled zero128 n n, rfl, Nat.zero_le _, hs, Nat.le_refl _, by unfold maxLen; omega, by rw [filled_size _ (Nat.le_refl _)]; omega, by
      rw [strsV_rep]; exact List.take_of_length_le (by simp [strsV])⟩⟩
  refine ⟨⟨Dk.Ok.new h1 hn, _, _, w1.heap.size, ⟨hg, ?_, World.ownsRow_nil _ _ _ _, ?_, ⟨by omega, by omega⟩, ⟨hsz, by omega⟩, fun b hb => ?_, fun b hb => by simp [Value.ownBlock] at hb, fun b hb => by simp; omega⟩⟩, ((hB.alloc hsz _).alloc (by simp; omega) _)⟩
  · have := (hso.alloc (.map #[] 0)).alloc (.cells (diskCells (.slice (some ⟨s, 0, none⟩) n n) (.slice none 0 0) w1.heap.size false false 0) 72)
    simpa [Dk.new] using this
  · exact hm.keep (Below.heap_alloc _ _ _ (by simp))
  · simp only [Value.ownBlock, Option.some.injEq] at hb
    subst hb
    exact ⟨hge, by have := hs.lt; omega⟩
theorem pos1 (n : Nat) (h : 1 ≤ n) : decide ((n : Int) < 1) = false := by simp; omega
theorem le512 (n : Nat) (h : n ≤ 512) : decide ((512 : Int) < n) = false := by simp; omega

set_option maxRecDepth 100000 in
set_option maxHeartbeats 4000000 in
theorem new_ok (n : Nat) (w : World) (h1 : 1 ≤ n) (hn : n ≤ 512) :
    Calls Try.prog 13 #[.int .i64 n] w fun e w' => ∃ g F, e = .returned (.tuple #[.pointer (some ⟨g, 0, none⟩), .int .i64 0]) ∧ IsDisk w' F g (Dk.new n) ∧ (∀ b, F b → w.heap.size ≤ b) ∧ Below w.heap.size w w' := by
  have H1 := pos1 n h1
  have H2 := le512 n hn
  have HR := Lib.hid (fun x W (hx : World.cell? W ⟨x, 0, none⟩ = some (.string zero128)) => repeat_one zero128 x n W hx h1 hn)
  have HN := Lib.hid (fun (w1 : World) s (hs : Blk w1 s 9 (filled zero128 n n)) (hB : Below w.heap.size w w1) (hge : w.heap.size ≤ s) => new_raw hs hB hge h1 hn)
  have hmm := @run_makeMap Try.prog
  clear h1 hn
  go_enter Try.func13, Try.ntmps13
  go_wp2_with fail
  refine (zero_any _).mono ?_
  rintro e w1 ⟨rfl, hb1⟩
  go_wp2_with fail
  have hx := (Blk.new w1 9 #[.string zero128]).cell 0
  refine (HR.out _ _ hx).mono ?_
  rintro e w2 ⟨s, rfl, hs, hge, hb2⟩
  have hB : Below w.heap.size w w2 := below2 (hb1.alloc hb1.size _) hb2
  have hge2 : w.heap.size ≤ s := Nat.le_trans (Nat.le_trans hb1.size (by simp)) hge
  obtain ⟨hd, hbf⟩ := HN.out _ _ hs hB hge2
  have HD := Lib.hid hd
  have HB := Lib.hid hbf
  clear hd hbf hx hs hge hB hb1 hb2
  go_wp2
  go_ret2
  exact ⟨_, _, rfl, HD.out, fun b hb => hb.1, HB.out⟩
end Go.Proofs.Ytpcfhpffbogjmaa
