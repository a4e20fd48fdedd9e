/- A slab's sector: plain. -/
import Derived.Test.YtbjpnkjddfpmpaaSlabC
import Derived.Test.YtbjpnkjddfpmpaaRegion
namespace Go.Proofs.Ytbjpnkjddfpmpaa
open Go.RowKit

theorem splice_app {α : Type} (p x q c : List α) (n : Nat) (hn : p.length = n) (h : x.length = c.length) : splice (p ++ x ++ q) n c = p ++ c ++ q := by
  subst hn
  unfold splice
  rw [List.append_assoc, List.take_left' rfl, ← List.append_assoc p x q, List.drop_left' (by simp [h]), ← List.append_assoc]
/-- The first 124 bytes of a slab's sector. -/
def front (E I : Nat) (s : ByteArray) : List UInt8 := be4 E ++ be4 I ++ [0, UInt8.ofNat s.size, 0, 0] ++ s.data.toList ++ List.replicate (112 - s.size) 0
theorem front_len (E I : Nat) (s : ByteArray) (h : s.size ≤ 112) : (front E I s).length = 124 := by
  unfold front
  simp only [List.length_append, be4_len, size_bytes, List.length_replicate, List.length_cons, List.length_nil]
  omega
theorem be4_size (n : Nat) (h : n ≤ 112) : be4 (n * 65536) = [0, UInt8.ofNat n, 0, 0] := by
  have e1 : UInt8.ofNat (n * 65536 / 16777216) = 0 := by rw [show n * 65536 / 16777216 = 0 from by omega]; rfl
  have e2 : n * 65536 / 65536 = n := by omega
  have e3 : UInt8.ofNat (n * 65536 / 256) = 0 := by
    apply UInt8.toNat_inj.1
    simp <;> omega
  have e4 : UInt8.ofNat (n * 65536) = 0 := by
    apply UInt8.toNat_inj.1
    simp <;> omega
  unfold be4
  rw [e1, e2, e3, e4]
theorem sect0_eq (E I : Nat) (s : ByteArray) (h : s.size ≤ 112) : sect0 E I s = front E I s ++ List.replicate 4 0 := by
  unfold sect0 front
  have r1 : List.replicate 128 (0 : UInt8) = [] ++ List.replicate 4 0 ++ (List.replicate 4 0 ++ (List.replicate 4 0 ++ (List.replicate s.size 0 ++ (List.replicate (112 - s.size) 0 ++ List.replicate 4 0)))) := by
    simp only [List.replicate_append_replicate, List.nil_append]
    congr 1
    omega
  have r2 : ∀ (p x q : List UInt8), p ++ (x ++ q) = p ++ x ++ q := fun p x q => (List.append_assoc _ _ _).symm
  rw [r1, splice_app [] _ _ (be4 E) 0 rfl (by simp [be4_len]), r2, splice_app _ _ _ (be4 I) 4 (by simp [be4_len]) (by simp [be4_len]), r2,
    splice_app _ _ _ (be4 (s.size * 65536)) 8 (by simp [be4_len]) (by simp [be4_len]), r2, splice_app _ _ _ s.data.toList 12 (by simp [be4_len]) (by simp), be4_size _ h]
  simp
theorem sect_eq (E I : Nat) (s : ByteArray) (h : s.size ≤ 112) : sect E I s = front E I s ++ le4 (Crc.sum (front E I s)) := by
  unfold sect
  rw [sect0_eq E I s h, List.take_left' (front_len E I s h)]
  have := splice_app (front E I s) (List.replicate 4 0) [] (le4 (Crc.sum (front E I s))) 124 (front_len E I s h) (by simp [le4_len])
  simpa using this
end Go.Proofs.Ytbjpnkjddfpmpaa
