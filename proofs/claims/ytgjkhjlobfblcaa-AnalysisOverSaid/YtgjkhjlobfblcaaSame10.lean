/- Rows of transactions that are told from an address on; equal ones (careenref10.SameRows). -/
import Derived.Test.YtgjkhjlobfblcaaBase
import Derived.Test.YtgjkhjlobfblcaaRegion
import Derived.Test.YtgjkhjlobfblcaaProg
import Derived.Test.YtgjkhjlobfblcaaRecM
namespace Go.Proofs.Ytgjkhjlobfblcaa
open Go.RowKit

/-- Rows are told from an address on. -/
def RowsAt (w : World) (a : Option Addr) (cap : Nat) (l : List (Int × Int × Int)) : Prop :=
  l.length ≤ cap ∧ ∀ j p, l[j]? = some p → ∃ b off, a = some ⟨b, off, none⟩ ∧ w.cell? ⟨b, off + j * 3, none⟩ = some (.int .i64 p.1) ∧ w.cell? ⟨b, off + j * 3 + 1, none⟩ = some (.int .i64 p.2.1) ∧ w.cell? ⟨b, off + j * 3 + 2, none⟩ = some (.int .i64 p.2.2)
theorem RowsAt.below {w w' : World} {a : Option Addr} {cap : Nat} {l : List (Int × Int × Int)} (h : RowsAt w a cap l) (hb : Below w.heap.size w w') : RowsAt w' a cap l := by
  refine ⟨h.1, fun j p hj => ?_⟩
  obtain ⟨b, off, e, c0, c1, c2⟩ := h.2 j p hj
  have hlt := World.block_lt_of_cell? w _ c0
  have k : ∀ x, w'.cell? ⟨b, x, none⟩ = w.cell? ⟨b, x, none⟩ := fun x => hb.cell (p := ⟨b, x, none⟩) hlt
  exact ⟨b, off, e, (k _).trans c0, (k _).trans c1, (k _).trans c2⟩
set_option maxRecDepth 100000 in
set_option maxHeartbeats 1000000 in
/-- Rows that are compared. -/
theorem row_ne (a b c x y z : Int) (w : World) : (binOp BinOp.neq 44 (.agg #[.int .i64 a, .int .i64 b, .int .i64 c]) (.agg #[.int .i64 x, .int .i64 y, .int .i64 z])).run Try.prog w = .ok (.bool (!(a == x && (b == y && c == z)))) w := by
  go_simp
  by_cases h1 : a = x <;> by_cases h2 : b = y <;> by_cases h3 : c = z <;> simp [h1, h2, h3]
section
set_option maxRecDepth 100000 in
set_option maxHeartbeats 8000000 in
theorem refSame10_any {w : World} (a b : Option Addr) (ca cb : Nat) (l : List (Int × Int × Int)) (ha : RowsAt w a ca l) (hb : RowsAt w b cb l) (hl : l.length ≤ 1000000) :
    Calls Try.prog 9 #[.slice a l.length ca, .slice b l.length cb] w fun e w' => e = .returned (.bool true) ∧ Below w.heap.size w w' := by
  have HA := Lib.hid ha
  have HB := Lib.hid hb
  have hlm : (l.length : Int) ≤ 9223372036854775807 := by omega
  clear ha hb
  go_enter Try.func9, Try.ntmps9
  go_wp2
  go_loopw [5] (fun i wr => ∃ k : Nat, k ≤ l.length ∧ i = .int .i64 k ∧ Below w.heap.size w wr) (fun i _ => (l.length - intOf i).toNat)
  case atStart => exact ⟨0, Nat.zero_le _, rfl, Below.refl _ _⟩
  case round =>
    obtain ⟨k, hk, rfl, hB⟩ := hrel
    by_cases hlt : k < l.length
    · have hv : l[k]? = some l[k] := List.getElem?_eq_getElem hlt
      have hA := HA.out.below hB
      have hBB := HB.out.below hB
      obtain ⟨g1, o1, rfl, x0, x1, x2⟩ := hA.2 k _ hv
      obtain ⟨g2, o2, rfl, y0, y1, y2⟩ := hBB.2 k _ hv
      have hc1 := hA.1
      have hc2 := hBB.1
      have HBW := Lib.hid hB
      have HLT := Lib.hid hlt
      have hlt' : (k : Int) < l.length := by omega
      clear hv hB hA hBB
      generalize l[k] = p at *
      have hne := fun w => row_ne p.1 p.2.1 p.2.2 p.1 p.2.1 p.2.2 w
      simp only [BEq.rfl, Bool.and_self, Bool.not_true] at hne
      obtain ⟨p1, p2, p3⟩ := p
      simp only at *
      go_wp2
      go_region
      go_wp2
      exact ⟨⟨k + 1, HLT.out, by go_num, by first | exact HBW.out | exact HBW.out.drew⟩, by simp [intOf]; have := HLT.out; omega⟩
    · obtain rfl : k = l.length := by omega
      go_wp2
      go_ret
      exact ⟨rfl, hB⟩
end
theorem RowsAt.ofElems {w : World} {v : Value} {l : List Row3} (h : Elems w v l.length (rows3 l)) : ∃ a c, v = .slice a l.length c ∧ RowsAt w a c l := by
  obtain ⟨a, c, rfl, h1, _, hx⟩ := h
  refine ⟨a, c, rfl, h1, fun j p hj => ?_⟩
  obtain ⟨hjl, rfl⟩ := List.getElem?_eq_some_iff.1 hj
  obtain ⟨e0, e1, e2⟩ := rows3_at l j hjl
  obtain ⟨b, off, rfl, c0⟩ := hx _ _ e0
  refine ⟨b, off, rfl, c0, ?_, ?_⟩
  · obtain ⟨b', off', e, c1⟩ := hx _ _ e1
    simp only [Option.some.injEq, Addr.mk.injEq, and_true] at e
    obtain ⟨rfl, rfl⟩ := e
    exact c1
  · obtain ⟨b', off', e, c1⟩ := hx _ _ e2
    simp only [Option.some.injEq, Addr.mk.injEq, and_true] at e
    obtain ⟨rfl, rfl⟩ := e
    exact c1
theorem refSame10E {w : World} {v1 v2 : Value} {l : List Row3} (h1 : Elems w v1 l.length (rows3 l)) (h2 : Elems w v2 l.length (rows3 l)) (hl : l.length ≤ 1000000) :
    Calls Try.prog 9 #[v1, v2] w fun e w' => e = .returned (.bool true) ∧ Below w.heap.size w w' := by
  obtain ⟨a, ca, rfl, ha⟩ := RowsAt.ofElems h1
  obtain ⟨b, cb, rfl, hb⟩ := RowsAt.ofElems h2
  exact refSame10_any a b ca cb l ha hb hl
end Go.Proofs.Ytgjkhjlobfblcaa
