/- A slice that came in, of elements of any type: what each of them reads as; nothing of the program is imported. -/
import Derived.Test.YtpcfhpffbogjmaaBase
import Derived.ProofKit
import Derived.OpenShut
import Derived.Deep.Fields
import Derived.Deep.Slices
namespace Go.Proofs.Ytpcfhpffbogjmaa
open Go.ChangeShapes Go.WideShapes Go.RowKit

/-- A list in memory: each element's c cells are such that P. -/
def ListOf {α : Type} (c : Nat) (P : World → List Value → α → Prop) (w : World) (v : Value) (l : List α) : Prop :=
  ∃ (a : Option Addr) (cap : Nat), v = .slice a l.length cap ∧ l.length ≤ cap ∧ cap ≤ maxLen ∧
    ∀ j x, l[j]? = some x → ∃ b off cs, a = some ⟨b, off, none⟩ ∧ b < w.heap.size ∧ P w cs x ∧ ∀ i u, cs[i]? = some u → w.cell? ⟨b, off + j * c + i, none⟩ = some u
theorem ListOf.keep {α : Type} {c : Nat} {P : World → List Value → α → Prop} {w w' : World} {v : Value} {l : List α} (h : ListOf c P w v l) (hP : ∀ cs x, P w cs x → P w' cs x) (hb : Below w.heap.size w w') : ListOf c P w' v l := by
  obtain ⟨a, cap, e, h1, h2, h3⟩ := h
  refine ⟨a, cap, e, h1, h2, fun j x hj => ?_⟩
  obtain ⟨b, off, cs, ea, hlt, hp, hc⟩ := h3 j x hj
  exact ⟨b, off, cs, ea, Nat.lt_of_lt_of_le hlt hb.size, hP _ _ hp, fun i u hu => (hb.cell (p := ⟨b, off + j * c + i, none⟩) hlt).trans (hc i u hu)⟩
theorem ListOf.nil {α : Type} {c : Nat} {P : World → List Value → α → Prop} (w : World) (a : Option Addr) (cap : Nat) (h : cap ≤ maxLen) : ListOf c P w (.slice a 0 cap) [] := ⟨a, cap, rfl, Nat.zero_le _, h, fun j x hj => by simp at hj⟩
theorem ListOf.cases {α : Type} {c : Nat} {P : World → List Value → α → Prop} {w : World} {v : Value} {l : List α} (h : ListOf c P w v l) :
    (l = [] ∧ ∃ a cap, v = .slice a 0 cap) ∨ ∃ b off cap, v = .slice (some ⟨b, off, none⟩) l.length cap ∧ 0 < l.length ∧ l.length ≤ cap ∧ cap ≤ maxLen ∧ b < w.heap.size ∧
      ∀ j (hj : j < l.length), ∃ cs, P w cs l[j] ∧ ∀ i u, cs[i]? = some u → w.cell? ⟨b, off + j * c + i, none⟩ = some u := by
  obtain ⟨a, cap, rfl, h1, h2, h3⟩ := h
  cases l with
  | nil => exact .inl ⟨rfl, a, cap, rfl⟩
  | cons x l =>
    obtain ⟨b, off, _, rfl, hlt, _⟩ := h3 0 x rfl
    refine .inr ⟨b, off, cap, rfl, by simp, h1, h2, hlt, fun j hj => ?_⟩
    obtain ⟨b', off', cs, e, _, hp, hc⟩ := h3 j _ (List.getElem?_eq_getElem hj)
    simp only [Option.some.injEq, Addr.mk.injEq, and_true] at e
    obtain ⟨rfl, rfl⟩ := e
    exact ⟨cs, hp, hc⟩
theorem open_list {H : Type} {enc : TypeId × Value → H} {P : Program} {W : World} {b0 : Nat} {r : Reach} {t e : TypeId} {v : Value} {d : DataW H} {p : List MemPlace} (ht : P.underlying t = some (.slice e)) (c : Nat) (hc0 : 0 < c) (hc : P.cellsOf e = c)
    (hval : Value.okWide P W r b0 t v) (h : DataW.Trod enc P W 0 (fun _ => true) true t v d p) {α : Type} [Inhabited α] (Q : World → List Value → α → Prop)
    (each : ∀ k cs y, cs.length = c → DataW.trod enc P W 0 (fun _ => true) true k e cs = some y → ∃ x, Q W cs x) : ∃ l : List α, ListOf c Q W v l := by
  obtain ⟨a0, len, cap, rfl⟩ := okWide_slice ht hval
  obtain ⟨fuel, hf⟩ := h
  rcases Deep.open_slice ht hf with ⟨hcs, _⟩ | ⟨a, len', cap', m, n, D, Pl, hcs, _, hl, hm, hmm, _, hx⟩
  · simp [Value.cells] at hcs
    obtain ⟨rfl, rfl, rfl⟩ := hcs
    exact ⟨[], ListOf.nil W _ _ (Nat.zero_le _)⟩
  · simp [Value.cells] at hcs
    obtain ⟨rfl, rfl, rfl⟩ := hcs
    simp only [if_true] at hmm
    subst hmm
    have one : ∀ j, j < m → ∃ x : α, ∃ b off cs, a = ⟨b, off, none⟩ ∧ b < W.heap.size ∧ Q W cs x ∧ ∀ i u, cs[i]? = some u → W.cell? ⟨b, off + j * c + i, none⟩ = some u := fun j hj => by
      obtain ⟨cs, hcc, htr⟩ := hx j hj
      rw [hc] at hcc
      obtain ⟨_, hcl, hat⟩ := World.cells?_some hcc
      obtain ⟨x, hx'⟩ := each _ cs _ hcl htr
      obtain ⟨blk, off, spot⟩ := a
      obtain ⟨cs0, hcc0, _⟩ := hx 0 (by omega)
      rw [hc] at hcc0
      obtain ⟨_, hcl0, hat0⟩ := World.cells?_some hcc0
      have h0 := (hat0 0 hc0).trans (List.getElem?_eq_getElem (by omega))
      have hspot : spot = none := by simpa [Addr.add] using World.cell?_spot h0
      subst hspot
      have hlt := World.block_lt_of_cell? W _ h0
      have hb : ((⟨blk, off, none⟩ : Addr).add (0 * c)).block = blk := by simp [Addr.add]
      simp only [add_plain] at hat hlt
      exact ⟨x, blk, off, cs, rfl, hlt, hx', fun i u hu => by
        have hi : i < c := by rw [← hcl]; exact (List.getElem?_eq_some_iff.1 hu).1
        rw [hat i hi, hu]⟩
    obtain ⟨f, hfp⟩ := Deep.choose_lt (n := len) (p := fun j (x : α) => ∃ b off cs, a = ⟨b, off, none⟩ ∧ b < W.heap.size ∧ Q W cs x ∧ ∀ i u, cs[i]? = some u → W.cell? ⟨b, off + j * c + i, none⟩ = some u) (fun j hj => one j (by omega))
    refine ⟨(List.range len).map f, some a, m, by simp, by simpa using hl, hm, fun j x hj => ?_⟩
    rw [List.getElem?_map] at hj
    by_cases g : j < len
    · rw [List.getElem?_range g] at hj
      simp only [Option.map_some, Option.some.injEq] at hj
      subst hj
      obtain ⟨b, off, cs, e, h1, h2, h3⟩ := hfp j g
      exact ⟨b, off, cs, by rw [e], h1, h2, h3⟩
    · rw [List.getElem?_eq_none (by simpa using g)] at hj
      cases hj
end Go.Proofs.Ytpcfhpffbogjmaa
