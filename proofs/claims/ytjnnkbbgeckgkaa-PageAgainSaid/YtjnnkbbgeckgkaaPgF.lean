/- The document's own Get (careenref06); both Puts and both Gets as one answer each. -/
import Derived.Test.YtjnnkbbgeckgkaaPgE
namespace Go.Proofs.Ytjnnkbbgeckgkaa
open Go.RowKit

section
variable (a o x n : Int) (d s : ByteArray) (w : World)

set_option maxRecDepth 100000 in
set_option maxHeartbeats 4000000 in
theorem refGet_form (h : ¬ PgOk a d) : Calls Try.prog 13 #[.agg #[.int .i64 a, .string d], .int .i64 o, .int .i64 n] w fun e w' => e = .returned (.tuple #[.string ⟨#[]⟩, .int .i64 3]) ∧ Below w.heap.size w w' := by
  have P := Lib.hid (fun W => refRight_any a d W false (by simp [h]))
  go_enter Try.func13, Try.ntmps13
  go_wp2_with fail
  have X0 := Blk.new w 23 #[.int .i64 a, .string d]
  have hB := (Below.refl w.heap.size w).alloc (Nat.le_refl _) (.cells #[.int .i64 a, .string d] 23)
  generalize (w.alloc (.cells #[.int .i64 a, .string d] 23)) = w1 at *
  refine (P.out _).mono ?_
  rintro e w2 ⟨rfl, hb⟩
  have X2 := X0.keep hb X0.lt
  have c1 := X2.cellAt (i := 1) (by simp)
  simp at c1
  replace hB := hB.trans (hb.mono hB.size)
  clear X0 hb P
  go_wp2
  go_ret2
  exact ⟨rfl, hB⟩

set_option maxRecDepth 100000 in
set_option maxHeartbeats 4000000 in
theorem refGet_range (h : PgOk a d) (hf : ¬ InPage o n) : Calls Try.prog 13 #[.agg #[.int .i64 a, .string d], .int .i64 o, .int .i64 n] w fun e w' => e = .returned (.tuple #[.string ⟨#[]⟩, .int .i64 2]) ∧ Below w.heap.size w w' := by
  have P := Lib.hid (fun W => refRight_any a d W true (by simp [h]))
  have HF := Lib.hid hf
  clear h hf
  go_enter Try.func13, Try.ntmps13
  go_wp2_with fail
  have X0 := Blk.new w 23 #[.int .i64 a, .string d]
  have hB := (Below.refl w.heap.size w).alloc (Nat.le_refl _) (.cells #[.int .i64 a, .string d] 23)
  generalize (w.alloc (.cells #[.int .i64 a, .string d] 23)) = w1 at *
  refine (P.out _).mono ?_
  rintro e w2 ⟨rfl, hb⟩
  have X2 := X0.keep hb X0.lt
  have c1 := X2.cellAt (i := 1) (by simp)
  simp at c1
  replace hB := hB.trans (hb.mono hB.size)
  clear X0 hb P
  by_cases h0 : o < 0
  · clear HF
    go_wp2
    go_ret2
    exact ⟨rfl, hB⟩
  · by_cases h1 : (220 : Int) < o
    · clear HF
      go_wp2
      go_ret2
      exact ⟨rfl, hB⟩
    · by_cases h2 : n < 0
      · clear HF
        go_wp2
        go_ret2
        exact ⟨rfl, hB⟩
      · have h3 : 220 - o < n := by have := HF.out; unfold InPage at this; omega
        clear HF
        go_wp2
        go_ret2
        exact ⟨rfl, hB⟩

set_option maxRecDepth 100000 in
set_option maxHeartbeats 4000000 in
theorem refGet_ok (O M : Nat) (h : PgOk a d) (hf : O + M ≤ 220) : Calls Try.prog 13 #[.agg #[.int .i64 a, .string d], .int .i64 O, .int .i64 M] w fun e w' => e = .returned (.tuple #[.string (d.extract O (O + M)), .int .i64 0]) ∧ Below w.heap.size w w' := by
  have P := Lib.hid (fun W => refRight_any a d W true (by simp [h]))
  have hd := h.2
  have h0 : (O : Int) ≤ 220 := by omega
  have h1 : (M : Int) ≤ 220 - O := by omega
  have hsl := slice_str (P := Try.prog) 9 Try.underlying9 d O (O + M) .i64 .i64 O ((O : Int) + M) rfl (by omega) (by omega) (by omega)
  clear h
  go_enter Try.func13, Try.ntmps13
  go_wp2_with fail
  have X0 := Blk.new w 23 #[.int .i64 a, .string d]
  have hB := (Below.refl w.heap.size w).alloc (Nat.le_refl _) (.cells #[.int .i64 a, .string d] 23)
  generalize (w.alloc (.cells #[.int .i64 a, .string d] 23)) = w1 at *
  refine (P.out _).mono ?_
  rintro e w2 ⟨rfl, hb⟩
  have X2 := X0.keep hb X0.lt
  have c1 := X2.cellAt (i := 1) (by simp)
  simp at c1
  replace hB := hB.trans (hb.mono hB.size)
  clear X0 hb P
  go_wp2
  go_ret2
  exact ⟨rfl, hB⟩
end

/-- What Put answers: a page, and an error. -/
def putR (a : Int) (d : ByteArray) (o : Int) (s : ByteArray) (x : Int) : Int × ByteArray × Int :=
  if PgOk a d then if Num x then if InPage o s.size then (x, putS d o.toNat s, 0) else (0, ⟨#[]⟩, 2) else (0, ⟨#[]⟩, 1) else (0, ⟨#[]⟩, 3)
/-- What Get answers: a text, and an error. -/
def getR (a : Int) (d : ByteArray) (o n : Int) : ByteArray × Int :=
  if PgOk a d then if InPage o n then (d.extract o.toNat (o.toNat + n.toNat), 0) else (⟨#[]⟩, 2) else (⟨#[]⟩, 3)
section
variable (a o x n : Int) (d s : ByteArray) (w : World)
theorem put_any (hs : s.size ≤ maxLen) : Calls Try.prog 10 #[.agg #[.int .i64 a, .string d], .int .i64 o, .string s, .int .i64 x] w fun e w' => e = .returned (.tuple #[.agg #[.int .i64 (putR a d o s x).1, .string (putR a d o s x).2.1], .int .i64 (putR a d o s x).2.2]) ∧ Below w.heap.size w w' := by
  unfold putR
  by_cases h : PgOk a d
  · by_cases hx : Num x
    · by_cases hf : InPage o s.size
      · rw [if_pos h, if_pos hx, if_pos hf]
        obtain ⟨h0, _, h2⟩ := hf
        obtain ⟨O, rfl⟩ := Int.eq_ofNat_of_zero_le h0
        obtain ⟨X, rfl⟩ := Int.eq_ofNat_of_zero_le hx.1
        obtain ⟨A, rfl⟩ := Int.eq_ofNat_of_zero_le h.1.1
        have k1 := hx.2
        have k2 := h.1.2
        exact put_ok d s w A O X (by omega) h.2 (by omega) (by omega)
      · rw [if_pos h, if_pos hx, if_neg hf]
        exact put_range a o x d s w h hx hs hf
    · rw [if_pos h, if_neg hx]
      exact put_place a o x d s w h hx
  · rw [if_neg h]
    exact put_form a o x d s w h
theorem refPut_any : Calls Try.prog 11 #[.agg #[.int .i64 a, .string d], .int .i64 o, .string s, .int .i64 x] w fun e w' => e = .returned (.tuple #[.agg #[.int .i64 (putR a d o s x).1, .string (putR a d o s x).2.1], .int .i64 (putR a d o s x).2.2]) ∧ Below w.heap.size w w' := by
  unfold putR
  by_cases h : PgOk a d
  · by_cases hx : Num x
    · by_cases hf : InPage o s.size
      · rw [if_pos h, if_pos hx, if_pos hf]
        obtain ⟨h0, _, h2⟩ := hf
        obtain ⟨O, rfl⟩ := Int.eq_ofNat_of_zero_le h0
        exact refPut_ok a x d s w O h hx (by omega)
      · rw [if_pos h, if_pos hx, if_neg hf]
        exact refPut_range a o x d s w h hx hf
    · rw [if_pos h, if_neg hx]
      exact refPut_place a o x d s w h hx
  · rw [if_neg h]
    exact refPut_form a o x d s w h
theorem get_any (hn : (Lit.int .i64 n).wf = true) : Calls Try.prog 12 #[.agg #[.int .i64 a, .string d], .int .i64 o, .int .i64 n] w fun e w' => e = .returned (.tuple #[.string (getR a d o n).1, .int .i64 (getR a d o n).2]) ∧ Below w.heap.size w w' := by
  unfold getR
  by_cases h : PgOk a d
  · by_cases hf : InPage o n
    · rw [if_pos h, if_pos hf]
      obtain ⟨h0, h1, h2⟩ := hf
      obtain ⟨O, rfl⟩ := Int.eq_ofNat_of_zero_le h0
      obtain ⟨M, rfl⟩ := Int.eq_ofNat_of_zero_le h1
      exact get_ok a d w O M h (by omega)
    · rw [if_pos h, if_neg hf]
      exact get_range a o n d w h hn hf
  · rw [if_neg h]
    exact get_form a o n d w h
theorem refGet_any : Calls Try.prog 13 #[.agg #[.int .i64 a, .string d], .int .i64 o, .int .i64 n] w fun e w' => e = .returned (.tuple #[.string (getR a d o n).1, .int .i64 (getR a d o n).2]) ∧ Below w.heap.size w w' := by
  unfold getR
  by_cases h : PgOk a d
  · by_cases hf : InPage o n
    · rw [if_pos h, if_pos hf]
      obtain ⟨h0, h1, h2⟩ := hf
      obtain ⟨O, rfl⟩ := Int.eq_ofNat_of_zero_le h0
      obtain ⟨M, rfl⟩ := Int.eq_ofNat_of_zero_le h1
      exact refGet_ok a d w O M h (by omega)
    · rw [if_pos h, if_neg hf]
      exact refGet_range a o n d w h hf
  · rw [if_neg h]
    exact refGet_form a o n d w h
end
end Go.Proofs.Ytjnnkbbgeckgkaa
