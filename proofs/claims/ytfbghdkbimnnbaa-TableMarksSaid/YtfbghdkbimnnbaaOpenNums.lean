/- Arguments that are slices of whole numbers, opened; nothing of the program is imported. -/
import Derived.Test.YtfbghdkbimnnbaaOpen
namespace Go.Proofs.Ytfbghdkbimnnbaa
open Go.ChangeShapes Go.WideShapes Go.RowKit

theorem open_nums {H : Type} {enc : TypeId × Value → H} {P : Program} {W : World} {b0 : Nat} {r : Reach} {t e : TypeId} {v : Value} {d : DataW H} {p : List MemPlace} (ht : P.underlying t = some (.slice e)) (he : P.underlying e = some (.int .i64)) (hc : P.cellsOf e = 1)
    (hval : Value.okWide P W r b0 t v) (h : DataW.Trod enc P W 0 (fun _ => true) true t v d p) : ∃ l : List Int, Reads W v (l.map fun b => Value.int .i64 b) ∧ l.length ≤ maxLen := by
  obtain ⟨a0, len0, cap0, rfl⟩ := okWide_slice ht hval
  obtain ⟨fuel, hf⟩ := h
  rcases Deep.open_slice1 ht hc hf with ⟨hcs, _⟩ | ⟨a, len, cap, m, k, V, D, Pl, hcs, _, hl, hm, hmm, _, hx⟩
  · simp [Value.cells] at hcs
    obtain ⟨rfl, rfl, rfl⟩ := hcs
    exact ⟨[], Reads.empty W _ _, Nat.zero_le _⟩
  · simp [Value.cells] at hcs
    obtain ⟨rfl, rfl, rfl⟩ := hcs
    simp only [if_true] at hmm
    subst hmm
    have each : ∀ j, j < m → ∃ b : Int, V j = .int .i64 b := fun j hj => by
      obtain ⟨x, hcs, _, hw⟩ := DataW.trod_int he (hx j hj).2
      simp only [List.cons.injEq, and_true] at hcs
      exact ⟨x, hcs⟩
    have hlen : ((List.range len0).map fun j => (match V j with | .int _ x => x | _ => 0)).length = len0 := by simp
    refine ⟨(List.range len0).map fun j => (match V j with | .int _ x => x | _ => 0), ⟨some a, m, by simp, by simpa using hl, fun j v hj => ?_⟩, by rw [hlen]; omega⟩
    rw [List.getElem?_map, List.getElem?_map] at hj
    by_cases g : j < len0
    · rw [List.getElem?_range g] at hj
      simp only [Option.map_some, Option.some.injEq] at hj
      obtain ⟨b, hb⟩ := each j (by omega)
      obtain ⟨blk, off, spot⟩ := a
      have h0 := (hx 0 (by omega)).1
      have hspot : spot = none := by simpa [Addr.add] using World.cell?_spot h0
      subst hspot
      refine ⟨blk, off, rfl, ?_⟩
      rw [← add_plain, (hx j (by omega)).1, ← hj, hb]
    · rw [List.getElem?_eq_none (by simpa using g)] at hj
      cases hj
end Go.Proofs.Ytfbghdkbimnnbaa
