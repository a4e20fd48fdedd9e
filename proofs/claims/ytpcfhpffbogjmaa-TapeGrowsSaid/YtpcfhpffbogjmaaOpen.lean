/- Arguments that are slices, opened: what they read as; nothing of the program is imported. -/
import Derived.Test.YtpcfhpffbogjmaaLists
import Derived.ProofKit
import Derived.OpenShut
import Derived.Laws.FloatArith
namespace Go.Proofs.Ytpcfhpffbogjmaa
open Go.ChangeShapes Go.WideShapes Go.RowKit

/-- A slice whose elements have one cell each: its values, and that each reads as data. -/
theorem open_reads {H : Type} {enc : TypeId × Value → H} {P : Program} {W : World} {b0 : Nat} {r : Reach} {t e : TypeId} {v : Value} {d : DataW H} {p : List MemPlace} (ht : P.underlying t = some (.slice e)) (hc : P.cellsOf e = 1)
    (hval : Value.okWide P W r b0 t v) (h : DataW.Trod enc P W 0 (fun _ => true) true t v d p) :
    ∃ vs, Reads W v vs ∧ ∀ u ∈ vs, ∃ n y, DataW.trod enc P W 0 (fun _ => true) true n e [u] = some y := by
  obtain ⟨a0, len, cap, rfl⟩ := okWide_slice ht hval
  obtain ⟨fuel, hf⟩ := h
  rcases Deep.open_slice1 ht hc hf with ⟨hcs, _⟩ | ⟨a, len', cap', m, n, V, D, Pl, hcs, _, hl, hm, hmm, _, hx⟩
  · simp [Value.cells] at hcs
    obtain ⟨rfl, rfl, rfl⟩ := hcs
    exact ⟨[], Reads.empty W _ _, fun u hu => by simp at hu⟩
  · simp [Value.cells] at hcs
    obtain ⟨rfl, rfl, rfl⟩ := hcs
    simp only [if_true] at hmm
    subst hmm
    refine ⟨(List.range len).map V, ⟨some a, m, by simp, by simpa using hl, fun j x hj => ?_⟩, fun u hu => ?_⟩
    · have hj' : j < len ∧ V j = x := by
        rw [List.getElem?_map] at hj
        by_cases g : j < len
        · rw [List.getElem?_range g] at hj
          exact ⟨g, by simpa using hj⟩
        · rw [List.getElem?_eq_none (by simpa using g)] at hj
          cases hj
      obtain ⟨b, off, spot⟩ := a
      have h0 := (hx 0 (by omega)).1
      have hspot : spot = none := by simpa [Addr.add] using World.cell?_spot h0
      subst hspot
      refine ⟨b, off, rfl, ?_⟩
      rw [← add_plain, (hx j (by omega)).1, hj'.2]
    · obtain ⟨j, hj, rfl⟩ := List.mem_map.1 hu
      exact ⟨n, _, (hx j (by have := List.mem_range.1 hj; omega)).2⟩
/-- A slice of floats. -/
theorem open_floats {H : Type} {enc : TypeId × Value → H} {P : Program} {W : World} {b0 : Nat} {r : Reach} {t e : TypeId} {v : Value} {d : DataW H} {p : List MemPlace} (ht : P.underlying t = some (.slice e)) (he : P.underlying e = some (.float .f64)) (hc : P.cellsOf e = 1)
    (hval : Value.okWide P W r b0 t v) (h : DataW.Trod enc P W 0 (fun _ => true) true t v d p) :
    ∃ xs : List Nat, Reads W v (xs.map (Value.float .f64)) ∧ ∀ x ∈ xs, x < 2 ^ 64 := by
  obtain ⟨vs, hr, hvs⟩ := open_reads ht hc hval h
  have each : ∀ u ∈ vs, ∃ x : Nat, u = .float .f64 x ∧ x < 2 ^ 64 := by
    intro u hu
    obtain ⟨n, y, hy⟩ := hvs u hu
    cases n with
    | zero => simp [DataW.trod] at hy
    | succ n =>
      cases u <;> simp [DataW.trod, he] at hy
      rename_i k b
      obtain ⟨⟨rfl, hw⟩, _⟩ := hy
      exact ⟨b, rfl, by simpa [Lit.wf] using hw⟩
  refine ⟨vs.map fun u => match u with | .float _ b => b | _ => 0, ?_, fun x hx => ?_⟩
  · have e : (vs.map fun u => match u with | .float _ b => b | _ => 0).map (Value.float .f64) = vs := by
      rw [List.map_map]
      conv => rhs; rw [← List.map_id vs]
      refine List.map_congr_left fun u hu => ?_
      obtain ⟨x, rfl, _⟩ := each u hu
      rfl
    rw [e]; exact hr
  · obtain ⟨u, hu, rfl⟩ := List.mem_map.1 hx
    obtain ⟨x, rfl, hlt⟩ := each u hu
    exact hlt
/-- A slice of bytes: what it reads as, out of its cells. -/
theorem reads_bytes {H : Type} {enc : TypeId × Value → H} {P : Program} {W : World} {t e : TypeId} {n : Nat} {cs : List Value} {y : DataW H × List MemPlace} (ht : P.underlying t = some (.slice e)) (he : P.underlying e = some (.int .u8)) (hc : P.cellsOf e = 1)
    (h : DataW.trod enc P W 0 (fun _ => true) true n t cs = some y) : ∃ (v : Value) (p : List UInt8), cs = [v] ∧ Reads W v (p.map fun b : UInt8 => Value.int .u8 (b.toNat : Int)) ∧ p.length ≤ maxLen := by
  rcases Deep.open_slice1 ht hc h with ⟨rfl, _⟩ | ⟨a, len, cap, m, k, V, D, Pl, rfl, _, hl, hm, hmm, _, hx⟩
  · exact ⟨_, [], rfl, Reads.empty W _ _, Nat.zero_le _⟩
  · simp only [if_true] at hmm
    subst hmm
    have each : ∀ j, j < m → ∃ b : UInt8, V j = .int .u8 (b.toNat : Int) := fun j hj => by
      obtain ⟨x, hcs, _, hw⟩ := DataW.trod_int he (hx j hj).2
      simp only [List.cons.injEq, and_true] at hcs
      have hr : 0 ≤ x ∧ x ≤ 255 := by simpa [Lit.wf, IntKind.min, IntKind.max, IntKind.signed, IntKind.bits] using hw
      exact ⟨UInt8.ofNat x.toNat, by rw [hcs]; congr 1; simp; omega⟩
    have hlen : ((List.range len).map fun j => (match V j with | .int _ x => UInt8.ofNat x.toNat | _ => 0)).length = len := by simp
    refine ⟨_, (List.range len).map fun j => (match V j with | .int _ x => UInt8.ofNat x.toNat | _ => 0), rfl, ⟨some a, m, by simp, by simpa using hl, fun j v hj => ?_⟩, by rw [hlen]; omega⟩
    rw [List.getElem?_map, List.getElem?_map] at hj
    by_cases g : j < len
    · rw [List.getElem?_range g] at hj
      simp only [Option.map_some, Option.some.injEq] at hj
      obtain ⟨b, hb⟩ := each j (by omega)
      obtain ⟨blk, off, spot⟩ := a
      have h0 := (hx 0 (by omega)).1
      have hspot : spot = none := by simpa [Addr.add] using World.cell?_spot h0
      subst hspot
      refine ⟨blk, off, rfl, ?_⟩
      rw [← add_plain, (hx j (by omega)).1, ← hj, hb]
      simp
    · rw [List.getElem?_eq_none (by simpa using g)] at hj
      cases hj
theorem open_bytes {H : Type} {enc : TypeId × Value → H} {P : Program} {W : World} {b0 : Nat} {r : Reach} {t e : TypeId} {v : Value} {d : DataW H} {p : List MemPlace} (ht : P.underlying t = some (.slice e)) (he : P.underlying e = some (.int .u8)) (hc : P.cellsOf e = 1)
    (hval : Value.okWide P W r b0 t v) (h : DataW.Trod enc P W 0 (fun _ => true) true t v d p) : ∃ l : List UInt8, Reads W v (l.map fun b => Value.int .u8 (b.toNat : Int)) ∧ l.length ≤ maxLen := by
  obtain ⟨a0, len, cap, rfl⟩ := okWide_slice ht hval
  obtain ⟨fuel, hf⟩ := h
  obtain ⟨v', l, e, hr, hl⟩ := reads_bytes ht he hc hf
  simp [Value.cells] at e
  subst e
  exact ⟨l, hr, hl⟩
end Go.Proofs.Ytpcfhpffbogjmaa
