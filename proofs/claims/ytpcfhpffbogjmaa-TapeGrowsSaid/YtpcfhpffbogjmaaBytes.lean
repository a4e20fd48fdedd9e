/- Bytes in memory: a block of bytes known whole; a piece of it as a text. -/
import Derived.Test.YtpcfhpffbogjmaaRows
import Derived.Test.YtpcfhpffbogjmaaBase
import Derived.Handy
import Derived.Lib.BufferWrite
import Derived.Lib.UnsafeStr
namespace Go.Proofs.Ytpcfhpffbogjmaa
open Go.RowKit

theorem info_u8 : (Try.prog.info? 5).map (·.size) = some 1 := by kernel_rfl
/-- Bytes as the cells of a block. -/
def bytesV (l : List UInt8) : Array Value := (l.map fun b => Value.int .u8 b.toNat).toArray
theorem bytesV_size (l : List UInt8) : (bytesV l).size = l.length := by simp [bytesV]
theorem bytesV_set (l : List UInt8) (i : Nat) (v : UInt8) : (bytesV l).setIfInBounds i (.int .u8 v.toNat) = bytesV (l.set i v) := by
  simp [bytesV, List.map_set]
theorem splice_nil {α : Type} (l : List α) (o : Nat) : splice l o [] = l := by simp [splice]
theorem splice_cons {α : Type} (l : List α) (o : Nat) (x : α) (xs : List α) (h : o < l.length) : splice l o (x :: xs) = splice (l.set o x) (o + 1) xs := by
  unfold splice
  have h1 : (l.set o x).take (o + 1) = l.take o ++ [x] := by
    rw [List.take_succ_eq_append_getElem (by simpa using h)]
    simp [List.take_set_of_le]
  have h2 : (l.set o x).drop (o + 1 + xs.length) = l.drop (o + (x :: xs).length) := by
    rw [List.drop_set_of_lt (by omega)]
    congr 1
    simp
    omega
  rw [h1, h2]
  simp
theorem grown_set (w : World) (g i : Nat) (v : Value) : w.grownBy (w.setCell ⟨g, i, none⟩ v) (some g) :=
  ⟨rfl, rfl, rfl, by simp [World.setCell], fun k _ hne => heap_setCell_other w _ k v (fun e => hne (by rw [e]))⟩
theorem grown_trans' {a b c : World} {r : Option Nat} (h : a.grownBy b r) (k : b.grownBy c r) : a.grownBy c r :=
  ⟨k.os.trans h.os, k.tape.trans h.tape, k.output.trans h.output, Nat.le_trans h.size k.size, fun i hi hne => (k.block i (Nat.lt_of_lt_of_le hi h.size) hne).trans (h.block i hi hne)⟩

theorem Blk.setB {w : World} {g t : Nat} {l : List UInt8} (h : Blk w g t (bytesV l)) (i x : Nat) (v : Int) (hv : v = (x : Int) % 256) :
    Blk (w.setCell ⟨g, i, none⟩ (.int .u8 v)) g t (bytesV (l.set i (UInt8.ofNat x))) := by
  have e : v = ((UInt8.ofNat x).toNat : Int) := by rw [hv]; simp
  rw [e, ← bytesV_set]
  exact h.set i _

theorem bytesV_eq (l : List UInt8) : bytesV l = (Lib.byteCells l).toArray := rfl
theorem bytesV_list (l : List UInt8) : (bytesV l).toList = Lib.byteCells l := by simp [bytesV, Lib.byteCells]
theorem bytesV_splice (l : List UInt8) (o : Nat) (c : List UInt8) : ((bytesV l).toList.take o ++ Lib.byteCells c ++ (bytesV l).toList.drop (o + c.length)).toArray = bytesV (splice l o c) := by
  simp [bytesV, Lib.byteCells, splice, List.map_take, List.map_drop]
set_option maxRecDepth 100000 in
/-- A piece of a block of bytes, as a text. -/
theorem conv_blk {w : World} {g t : Nat} {l : List UInt8} (h : Blk w g t (bytesV l)) (off len cap : Nat) (ho : off + len ≤ l.length) (src e dst : TypeId)
    (hs : Try.prog.underlying src = some (.slice e)) (he : Try.prog.underlying e = some (.int .u8)) (hd : Try.prog.underlying dst = some .string) :
    (convert src dst (.slice (some ⟨g, off, none⟩) len cap)).run Try.prog w = .ok (.string ⟨((l.drop off).take len).toArray⟩) w := by
  have hr := run_convert_bytes_arg (P := Try.prog) w src e hs he g off len cap (((l.drop off).take len).map fun b => (b.toNat : Int)) (by simp; omega) (fun i hi => by
    rw [h.cell]
    simp only [bytesV, List.getElem?_toArray, List.getElem?_map]
    rw [List.getElem?_eq_getElem (by omega)]
    simp [List.getD, hi, show off + i < l.length by omega]) dst hd
  rw [hr]
  congr 2
  unfold strOfNums
  rw [List.map_map]
  congr 2
  conv => rhs; rw [← List.map_id ((l.drop off).take len)]
  congr 1
  funext b
  simp

set_option maxRecDepth 100000 in
/-- Cells that hold bytes, as a text. -/
theorem conv_cells {w : World} {g off cap : Nat} (l : List UInt8) (h : ∀ j b, l[j]? = some b → w.cell? ⟨g, off + j, none⟩ = some (.int .u8 b.toNat)) (src e dst : TypeId)
    (hs : Try.prog.underlying src = some (.slice e)) (he : Try.prog.underlying e = some (.int .u8)) (hd : Try.prog.underlying dst = some .string) (len : Nat) (hl : l.length = len) :
    (convert src dst (.slice (some ⟨g, off, none⟩) len cap)).run Try.prog w = .ok (.string ⟨l.toArray⟩) w := by
  have hr := run_convert_bytes_arg (P := Try.prog) w src e hs he g off len cap (l.map fun b => (b.toNat : Int)) (by simp [hl]) (fun i hi => by
    rw [h i l[i] (List.getElem?_eq_getElem (by omega))]
    simp [List.getD, hl, hi]) dst hd
  rw [hr]
  congr 2
  unfold strOfNums
  rw [List.map_map]
  congr 2
  conv => rhs; rw [← List.map_id l]
  congr 1
  funext b
  simp
/-- The bytes that a slice of one's own holds, as a text. -/
theorem conv_owned {w : World} {base g n cap e : Nat} (l : List UInt8) (h : w.ownsRow base e 1 (.slice (some ⟨g, 0, none⟩) n cap) n (bytesV l).toList) (src dst : TypeId)
    (hs : Try.prog.underlying src = some (.slice e)) (he : Try.prog.underlying e = some (.int .u8)) (hd : Try.prog.underlying dst = some .string) :
    (convert src dst (.slice (some ⟨g, 0, none⟩) n cap)).run Try.prog w = .ok (.string ⟨l.toArray⟩) w := by
  refine conv_cells l (fun j b hj => ?_) src e dst hs he hd n (by have := h.1; simp [bytesV] at this; exact this)
  have := h.cells (g := g) rfl j (.int .u8 b.toNat) (by simp [bytesV, hj])
  have hadd : (⟨g, 0, none⟩ : Addr).add j = ⟨g, 0 + j, none⟩ := by unfold Addr.add; split <;> simp_all
  rwa [hadd] at this

theorem getD_at (s : ByteArray) (i : Nat) (h : i < s.size) : s.data.toList.getD i 0 = s[i] := by
  rw [List.getD_eq_getElem?_getD, List.getElem?_eq_getElem (by simpa using h)]
  rfl
end Go.Proofs.Ytpcfhpffbogjmaa
