/- The document's own Get (careenref06); both Puts and both Gets as one answer each. -/
import Derived.Test.YtkodnjefdophmaaPgE
namespace Go.Proofs.Ytkodnjefdophmaa
open Go.RowKit

section
variable (a o x n : Int) (d s : ByteArray) (w : World)

end

/-- What Put answers: a page, and an error. -/
def putR (a : Int) (d : ByteArray) (o : Int) (s : ByteArray) (x : Int) : Int × ByteArray × Int :=
  if PgOk a d then if Num x then if InPage o s.size then (x, putS d o.toNat s, 0) else (0, ⟨#[]⟩, 2) else (0, ⟨#[]⟩, 1) else (0, ⟨#[]⟩, 3)
/-- Where Put answers an error, it answers no page. -/
theorem putR_err {a o x : Int} {d s : ByteArray} (h : (putR a d o s x).2.2 ≠ 0) : (putR a d o s x).1 = 0 ∧ (putR a d o s x).2.1 = ⟨#[]⟩ := by
  unfold putR at *
  by_cases h1 : PgOk a d
  · by_cases h2 : Num x
    · by_cases h3 : InPage o s.size
      · rw [if_pos h1, if_pos h2, if_pos h3] at h
        exact absurd rfl h
      · rw [if_pos h1, if_pos h2, if_neg h3]
        exact ⟨rfl, rfl⟩
    · rw [if_pos h1, if_neg h2]
      exact ⟨rfl, rfl⟩
  · rw [if_neg h1]
    exact ⟨rfl, rfl⟩
theorem putR_ok {a o x : Int} {d s : ByteArray} (h : (putR a d o s x).2.2 = 0) : PgOk a d ∧ Num x ∧ InPage o s.size ∧ putR a d o s x = (x, putS d o.toNat s, 0) := by
  unfold putR at *
  by_cases h1 : PgOk a d
  · by_cases h2 : Num x
    · by_cases h3 : InPage o s.size
      · exact ⟨h1, h2, h3, by rw [if_pos h1, if_pos h2, if_pos h3]⟩
      · rw [if_pos h1, if_pos h2, if_neg h3] at h
        cases h
    · rw [if_pos h1, if_neg h2] at h
      cases h
  · rw [if_neg h1] at h
    cases h
/-- What Get answers: a text, and an error. -/
def getR (a : Int) (d : ByteArray) (o n : Int) : ByteArray × Int :=
  if PgOk a d then if InPage o n then (d.extract o.toNat (o.toNat + n.toNat), 0) else (⟨#[]⟩, 2) else (⟨#[]⟩, 3)
section
variable (a o x n : Int) (d s : ByteArray) (w : World)
theorem pgPut_any (hs : s.size ≤ maxLen) : Calls Try.prog 34 #[.agg #[.int .i64 a, .string d], .int .i64 o, .string s, .int .i64 x] w fun e w' => e = .returned (.tuple #[.agg #[.int .i64 (putR a d o s x).1, .string (putR a d o s x).2.1], .int .i64 (putR a d o s x).2.2]) ∧ Below w.heap.size w w' := by
  unfold putR
  by_cases h : PgOk a d
  · by_cases hx : Num x
    · by_cases hf : InPage o s.size
      · rw [if_pos h, if_pos hx, if_pos hf]
        obtain ⟨h0, _, h2⟩ := hf
        obtain ⟨O, rfl⟩ := Int.eq_ofNat_of_zero_le h0
        obtain ⟨X, rfl⟩ := Int.eq_ofNat_of_zero_le hx.1
        obtain ⟨A, rfl⟩ := Int.eq_ofNat_of_zero_le h.1.1
        have k1 := hx.2
        have k2 := h.1.2
        exact pgPut_ok d s w A O X (by omega) h.2 (by omega) (by omega)
      · rw [if_pos h, if_pos hx, if_neg hf]
        exact pgPut_range a o x d s w h hx hs hf
    · rw [if_pos h, if_neg hx]
      exact pgPut_place a o x d s w h hx
  · rw [if_neg h]
    exact pgPut_form a o x d s w h
theorem pgRefPut_any : Calls Try.prog 26 #[.agg #[.int .i64 a, .string d], .int .i64 o, .string s, .int .i64 x] w fun e w' => e = .returned (.tuple #[.agg #[.int .i64 (putR a d o s x).1, .string (putR a d o s x).2.1], .int .i64 (putR a d o s x).2.2]) ∧ Below w.heap.size w w' := by
  unfold putR
  by_cases h : PgOk a d
  · by_cases hx : Num x
    · by_cases hf : InPage o s.size
      · rw [if_pos h, if_pos hx, if_pos hf]
        obtain ⟨h0, _, h2⟩ := hf
        obtain ⟨O, rfl⟩ := Int.eq_ofNat_of_zero_le h0
        exact pgRefPut_ok a x d s w O h hx (by omega)
      · rw [if_pos h, if_pos hx, if_neg hf]
        exact pgRefPut_range a o x d s w h hx hf
    · rw [if_pos h, if_neg hx]
      exact pgRefPut_place a o x d s w h hx
  · rw [if_neg h]
    exact pgRefPut_form a o x d s w h
end
end Go.Proofs.Ytkodnjefdophmaa
