/- Texts that belong together, joined: PgA2, PgPl, PgD, PgE, PgF, PgI, PgJ. -/
import Derived.Test.YtpiaknmjepjglaaGreatJpg
import Derived.Test.YtpiaknmjepjglaaGreatRecM
import Derived.Test.YtpiaknmjepjglaaGreatNum4
import Derived.Test.YtpiaknmjepjglaaGreatClone
/- Package page: the small calls: what fits, which records change pages. -/
namespace Go.Proofs.YtpiaknmjepjglaaGreat
open Go.RowKit

/-- Does a page have n bytes from o on? -/
def InPage (o n : Int) : Prop := 0 ≤ o ∧ 0 ≤ n ∧ o + n ≤ 220
instance (o n : Int) : Decidable (InPage o n) := inferInstanceAs (Decidable (_ ∧ _))
/-- Does a record change pages? -/
def Chg (r : Rc) : Prop := r.kind = 1 ∨ r.kind = 2
instance (r : Rc) : Decidable (Chg r) := inferInstanceAs (Decidable (_ ∨ _))
end Go.Proofs.YtpiaknmjepjglaaGreat

/- Texts put into texts: plain. -/
namespace Go.Proofs.YtpiaknmjepjglaaGreat
open Go.RowKit

/-- A text with another one in it. -/
def putS (d : ByteArray) (o : Nat) (s : ByteArray) : ByteArray := ⟨(splice d.data.toList o s.data.toList).toArray⟩
theorem putS_data (d : ByteArray) (o : Nat) (s : ByteArray) : (putS d o s).data.toList = splice d.data.toList o s.data.toList := rfl
theorem putS_size {d : ByteArray} {o : Nat} {s : ByteArray} (h : o + s.size ≤ d.size) : (putS d o s).size = d.size := by
  rw [← size_bytes, putS_data, length_splice _ _ _ (by rw [size_bytes, size_bytes]; exact h), size_bytes]

theorem splice_page (X O : Nat) (d s : List UInt8) : splice (be4 X ++ d) (4 + O) s = be4 X ++ splice d O s := by
  unfold splice
  rw [List.take_append, List.drop_append, be4_len, show 4 + O - 4 = O by omega, show 4 + O + s.length - 4 = O + s.length by omega, List.take_of_length_le (by rw [be4_len]; omega), List.drop_of_length_le (by rw [be4_len]; omega), List.nil_append]
  simp only [List.append_assoc]
theorem sizeWf {s : ByteArray} (h : s.size ≤ maxLen) : (Lit.int .i64 (s.size : Int)).wf = true := by
  unfold maxLen at h
  simp [Lit.wf, IntKind.min, IntKind.max, IntKind.signed, IntKind.bits]
  omega
end Go.Proofs.YtpiaknmjepjglaaGreat

/- Package page: Put and Get. -/
namespace Go.Proofs.YtpiaknmjepjglaaGreat
open Go.RowKit

section
variable (a o x n : Int) (d s : ByteArray) (w : World)
end
end Go.Proofs.YtpiaknmjepjglaaGreat

/- The document's own Put and Get (careenref06). -/
namespace Go.Proofs.YtpiaknmjepjglaaGreat
open Go.RowKit

/-- A text with another one in it, as pieces behind one another. -/
theorem putS_pieces (d s : ByteArray) (o : Nat) : d.extract 0 o ++ s ++ d.extract (o + s.size) d.size = putS d o s := by
  apply str_ext
  rw [putS_data]
  unfold splice
  simp [ByteArray.data_append]
  exact List.take_of_length_le (by simp)
section
variable (a o x n : Int) (d s : ByteArray) (w : World)

set_option maxRecDepth 100000 in
set_option maxHeartbeats 4000000 in
theorem pgRefPut_form (h : ¬ PgOk a d) : Calls Tryz.prog 60 #[.agg #[.int .i64 a, .string d], .int .i64 o, .string s, .int .i64 x] w fun e w' => e = .returned (.tuple #[.agg #[.int .i64 0, .string ⟨#[]⟩], .int .i64 3]) ∧ Below w.heap.size w w' := by
  have P := Lib.hid (fun W => pgRefRight_any a d W false (by simp [h]))
  go_enter Tryz.func60, Tryz.ntmps60
  go_wp2_with fail
  have R0 := Blk.new (w.alloc (.cells #[.int .i64 a, .string d] 45)) 45 #[.int .i64 0, .string ⟨#[]⟩]
  have X0 := (Blk.new w 45 #[.int .i64 a, .string d]).alloc (.cells #[.int .i64 0, .string ⟨#[]⟩] 45)
  simp only [World.size_alloc] at R0
  have hB := ((Below.refl w.heap.size w).alloc (Nat.le_refl _) (.cells #[.int .i64 a, .string d] 45)).alloc (by simp) (.cells #[.int .i64 0, .string ⟨#[]⟩] 45)
  generalize (w.alloc (.cells #[.int .i64 a, .string d] 45)).alloc (.cells #[.int .i64 0, .string ⟨#[]⟩] 45) = w1 at *
  refine (P.out _).mono ?_
  rintro e w2 ⟨rfl, hb⟩
  have R2 := R0.keep hb R0.lt
  have X2 := X0.keep hb X0.lt
  replace hB := hB.trans (hb.mono hB.size)
  clear R0 X0 hb P
  go_wp2_with (refine wpList_store_row rfl 45 _ _ rfl (w.heap.size + 1) _ rfl rfl 45 _ R2 (by kernel_rfl) (by simp) (by simp [Value.oneCell']) ?_)
  exact bodyPost_ret (results_row_tmp rfl _ _ (w.heap.size + 1) 45 _ _ rfl (R2.setRow _) Tryz.underlying45 rfl (by kernel_rfl)) rfl ⟨rfl, below_setRow hB (by omega) _⟩

set_option maxRecDepth 100000 in
set_option maxHeartbeats 4000000 in
theorem pgRefPut_place (h : PgOk a d) (hx : ¬ Num x) : Calls Tryz.prog 60 #[.agg #[.int .i64 a, .string d], .int .i64 o, .string s, .int .i64 x] w fun e w' => e = .returned (.tuple #[.agg #[.int .i64 0, .string ⟨#[]⟩], .int .i64 1]) ∧ Below w.heap.size w w' := by
  have P := Lib.hid (fun W => pgRefRight_any a d W true (by simp [h]))
  go_enter Tryz.func60, Tryz.ntmps60
  go_wp2_with fail
  have R0 := Blk.new (w.alloc (.cells #[.int .i64 a, .string d] 45)) 45 #[.int .i64 0, .string ⟨#[]⟩]
  have X0 := (Blk.new w 45 #[.int .i64 a, .string d]).alloc (.cells #[.int .i64 0, .string ⟨#[]⟩] 45)
  simp only [World.size_alloc] at R0
  have hB := ((Below.refl w.heap.size w).alloc (Nat.le_refl _) (.cells #[.int .i64 a, .string d] 45)).alloc (by simp) (.cells #[.int .i64 0, .string ⟨#[]⟩] 45)
  generalize (w.alloc (.cells #[.int .i64 a, .string d] 45)).alloc (.cells #[.int .i64 0, .string ⟨#[]⟩] 45) = w1 at *
  refine (P.out _).mono ?_
  rintro e w2 ⟨rfl, hb⟩
  have R2 := R0.keep hb R0.lt
  have X2 := X0.keep hb X0.lt
  replace hB := hB.trans (hb.mono hB.size)
  clear R0 X0 hb P
  by_cases h0 : x < 0
  · clear hx
    go_wp2_with (refine wpList_store_row rfl 45 _ _ rfl (w.heap.size + 1) _ rfl rfl 45 _ R2 (by kernel_rfl) (by simp) (by simp [Value.oneCell']) ?_)
    exact bodyPost_ret (results_row_tmp rfl _ _ (w.heap.size + 1) 45 _ _ rfl (R2.setRow _) Tryz.underlying45 rfl (by kernel_rfl)) rfl ⟨rfl, below_setRow hB (by omega) _⟩
  · have h1 : (2147483647 : Int) < x := by unfold Num at hx; omega
    clear hx
    go_wp2_with (refine wpList_store_row rfl 45 _ _ rfl (w.heap.size + 1) _ rfl rfl 45 _ R2 (by kernel_rfl) (by simp) (by simp [Value.oneCell']) ?_)
    exact bodyPost_ret (results_row_tmp rfl _ _ (w.heap.size + 1) 45 _ _ rfl (R2.setRow _) Tryz.underlying45 rfl (by kernel_rfl)) rfl ⟨rfl, below_setRow hB (by omega) _⟩

set_option maxRecDepth 100000 in
set_option maxHeartbeats 4000000 in
theorem pgRefPut_range (h : PgOk a d) (hx : Num x) (hf : ¬ InPage o s.size) : Calls Tryz.prog 60 #[.agg #[.int .i64 a, .string d], .int .i64 o, .string s, .int .i64 x] w fun e w' => e = .returned (.tuple #[.agg #[.int .i64 0, .string ⟨#[]⟩], .int .i64 2]) ∧ Below w.heap.size w w' := by
  have P := Lib.hid (fun W => pgRefRight_any a d W true (by simp [h]))
  go_enter Tryz.func60, Tryz.ntmps60
  go_wp2_with fail
  have R0 := Blk.new (w.alloc (.cells #[.int .i64 a, .string d] 45)) 45 #[.int .i64 0, .string ⟨#[]⟩]
  have X0 := (Blk.new w 45 #[.int .i64 a, .string d]).alloc (.cells #[.int .i64 0, .string ⟨#[]⟩] 45)
  simp only [World.size_alloc] at R0
  have hB := ((Below.refl w.heap.size w).alloc (Nat.le_refl _) (.cells #[.int .i64 a, .string d] 45)).alloc (by simp) (.cells #[.int .i64 0, .string ⟨#[]⟩] 45)
  generalize (w.alloc (.cells #[.int .i64 a, .string d] 45)).alloc (.cells #[.int .i64 0, .string ⟨#[]⟩] 45) = w1 at *
  refine (P.out _).mono ?_
  rintro e w2 ⟨rfl, hb⟩
  have R2 := R0.keep hb R0.lt
  have X2 := X0.keep hb X0.lt
  replace hB := hB.trans (hb.mono hB.size)
  clear R0 X0 hb P
  obtain ⟨h0, h1⟩ := hx
  clear h
  by_cases h2 : o < 0
  · clear hf
    go_wp2_with (refine wpList_store_row rfl 45 _ _ rfl (w.heap.size + 1) _ rfl rfl 45 _ R2 (by kernel_rfl) (by simp) (by simp [Value.oneCell']) ?_)
    exact bodyPost_ret (results_row_tmp rfl _ _ (w.heap.size + 1) 45 _ _ rfl (R2.setRow _) Tryz.underlying45 rfl (by kernel_rfl)) rfl ⟨rfl, below_setRow hB (by omega) _⟩
  · by_cases h3 : (220 : Int) < o
    · clear hf
      go_wp2_with (refine wpList_store_row rfl 45 _ _ rfl (w.heap.size + 1) _ rfl rfl 45 _ R2 (by kernel_rfl) (by simp) (by simp [Value.oneCell']) ?_)
      exact bodyPost_ret (results_row_tmp rfl _ _ (w.heap.size + 1) 45 _ _ rfl (R2.setRow _) Tryz.underlying45 rfl (by kernel_rfl)) rfl ⟨rfl, below_setRow hB (by omega) _⟩
    · have h4 : (220 - o : Int) < s.size := by unfold InPage at hf; omega
      clear hf
      go_wp2_with (refine wpList_store_row rfl 45 _ _ rfl (w.heap.size + 1) _ rfl rfl 45 _ R2 (by kernel_rfl) (by simp) (by simp [Value.oneCell']) ?_)
      exact bodyPost_ret (results_row_tmp rfl _ _ (w.heap.size + 1) 45 _ _ rfl (R2.setRow _) Tryz.underlying45 rfl (by kernel_rfl)) rfl ⟨rfl, below_setRow hB (by omega) _⟩

set_option maxRecDepth 100000 in
set_option maxHeartbeats 4000000 in
theorem pgRefPut_ok (O : Nat) (h : PgOk a d) (hx : Num x) (hO : O + s.size ≤ 220) : Calls Tryz.prog 60 #[.agg #[.int .i64 a, .string d], .int .i64 O, .string s, .int .i64 x] w fun e w' => e = .returned (.tuple #[.agg #[.int .i64 x, .string (putS d O s)], .int .i64 0]) ∧ Below w.heap.size w w' := by
  have P := Lib.hid (fun W => pgRefRight_any a d W true (by simp [h]))
  obtain ⟨h0, h1⟩ := hx
  have hd := h.2
  have hp := putS_pieces d s O
  rw [hd] at hp
  replace hp := Lib.hid hp
  clear h
  have h2 : (O : Int) ≤ 220 := by omega
  have h4 : (s.size : Int) ≤ 220 - O := by omega
  have hsl : ∀ W, (Instr.slice 9 (.string d) none (some (.int .i64 O)) none).run Tryz.prog W = .ok (.string (d.extract 0 O)) W := fun W => by
    have := run_slice_string_h (P := Tryz.prog) (w := W) (t := 9) d Tryz.underlying9 .i64 O (by omega) (by omega)
    simpa using this
  go_enter Tryz.func60, Tryz.ntmps60
  go_wp2_with fail
  have R0 := Blk.new (w.alloc (.cells #[.int .i64 a, .string d] 45)) 45 #[.int .i64 0, .string ⟨#[]⟩]
  have X0 := (Blk.new w 45 #[.int .i64 a, .string d]).alloc (.cells #[.int .i64 0, .string ⟨#[]⟩] 45)
  simp only [World.size_alloc] at R0
  have hB := ((Below.refl w.heap.size w).alloc (Nat.le_refl _) (.cells #[.int .i64 a, .string d] 45)).alloc (by simp) (.cells #[.int .i64 0, .string ⟨#[]⟩] 45)
  generalize (w.alloc (.cells #[.int .i64 a, .string d] 45)).alloc (.cells #[.int .i64 0, .string ⟨#[]⟩] 45) = w1 at *
  refine (P.out _).mono ?_
  rintro e w2 ⟨rfl, hb⟩
  have R2 := R0.keep hb R0.lt
  have X2 := X0.keep hb X0.lt
  have c1 := X2.cellAt (i := 1) (by simp)
  simp at c1
  replace hB := hB.trans (hb.mono hB.size)
  clear R0 X0 hb P
  have z1 : (d.extract 0 O).size = O := by rw [ByteArray.size_extract]; omega
  have z2 : (d.extract (O + s.size) 220).size = 220 - (O + s.size) := by rw [ByteArray.size_extract]; omega
  have hA1 : ∀ W, (Op.stringOp .add (d.extract 0 O) s).run Tryz.prog W = .ok (.string (d.extract 0 O ++ s)) W := fun W => run_string_add_sum W _ _ (by omega)
  have hA2 : ∀ W, (Op.stringOp .add (d.extract 0 O ++ s) (d.extract (O + s.size) 220)).run Tryz.prog W = .ok (.string (d.extract 0 O ++ s ++ d.extract (O + s.size) 220)) W := fun W => run_string_add_sum W _ _ (by rw [ByteArray.size_append]; omega)
  have hw : IntKind.i64.wrap ((O : Int) + s.size) = (O : Int) + s.size := by rw [IntKind.wrap_i64]; omega
  have hsl2 := slice_from (P := Tryz.prog) 9 Tryz.underlying9 d (O + s.size) .i64 ((O : Int) + s.size) (by omega) (by omega)
  rw [hd] at hsl2
  clear z1 z2
  have hd' := Lib.hid hd
  go_upto_region 7 with fail
  clear h0 h1 h2 h4 hd
  go_still_tail 16, (by kernel_rfl)
  change wpList _ _ _ _ _ w2.drew
  replace R2 := R2.drew
  replace hB := hB.drew
  clear hsl hsl2 hA1 hA2 hw X2 c1
  rw [hp.out]
  generalize w2.drew = w3 at *
  go_wp2_with (refine wpList_store_row rfl 45 _ _ rfl (w.heap.size + 1) _ rfl rfl 45 _ R2 (by kernel_rfl) (by simp) (by simp [Value.oneCell']) ?_)
  exact bodyPost_ret (results_row_tmp rfl _ _ (w.heap.size + 1) 45 _ _ rfl (R2.setRow _) Tryz.underlying45 rfl (by kernel_rfl)) rfl ⟨rfl, below_setRow hB (by omega) _⟩
end
end Go.Proofs.YtpiaknmjepjglaaGreat

/- The document's own Get (careenref06); both Puts and both Gets as one answer each. -/
namespace Go.Proofs.YtpiaknmjepjglaaGreat
open Go.RowKit

section
variable (a o x n : Int) (d s : ByteArray) (w : World)

end

/-- What Put answers: a page, and an error. -/
def putR (a : Int) (d : ByteArray) (o : Int) (s : ByteArray) (x : Int) : Int × ByteArray × Int :=
  if PgOk a d then if Num x then if InPage o s.size then (x, putS d o.toNat s, 0) else (0, ⟨#[]⟩, 2) else (0, ⟨#[]⟩, 1) else (0, ⟨#[]⟩, 3)
/-- What Get answers: a text, and an error. -/
def getR (a : Int) (d : ByteArray) (o n : Int) : ByteArray × Int :=
  if PgOk a d then if InPage o n then (d.extract o.toNat (o.toNat + n.toNat), 0) else (⟨#[]⟩, 2) else (⟨#[]⟩, 3)
section
variable (a o x n : Int) (d s : ByteArray) (w : World)
theorem pgRefPut_any : Calls Tryz.prog 60 #[.agg #[.int .i64 a, .string d], .int .i64 o, .string s, .int .i64 x] w fun e w' => e = .returned (.tuple #[.agg #[.int .i64 (putR a d o s x).1, .string (putR a d o s x).2.1], .int .i64 (putR a d o s x).2.2]) ∧ Below w.heap.size w w' := by
  unfold putR
  by_cases h : PgOk a d
  · by_cases hx : Num x
    · by_cases hf : InPage o s.size
      · rw [if_pos h, if_pos hx, if_pos hf]
        obtain ⟨h0, _, h2⟩ := hf
        obtain ⟨O, rfl⟩ := Int.eq_ofNat_of_zero_le h0
        exact pgRefPut_ok a x d s w O h hx (by omega)
      · rw [if_pos h, if_pos hx, if_neg hf]
        exact pgRefPut_range a o x d s w h hx hf
    · rw [if_pos h, if_neg hx]
      exact pgRefPut_place a o x d s w h hx
  · rw [if_neg h]
    exact pgRefPut_form a o x d s w h
end
end Go.Proofs.YtpiaknmjepjglaaGreat

/- Package page: Apply. -/
namespace Go.Proofs.YtpiaknmjepjglaaGreat
open Go.RowKit

/-- What a record at a place makes of a page. -/
def applyR (a : Int) (d : ByteArray) (x : Int) (r : Rc) : Int × ByteArray :=
  if Chg r ∧ a < x ∧ (putR a d r.off r.after x).2.2 = 0 then ((putR a d r.off r.after x).1, (putR a d r.off r.after x).2.1) else (a, d)

/-- The text that a record has behind it has a length. -/
def Sized' (r : Rc) : Prop := r.after.size ≤ maxLen

section
set_option maxRecDepth 100000
variable {w : World} {v : Value} {r : Rc} (a x : Int) (d : ByteArray)
end
end Go.Proofs.YtpiaknmjepjglaaGreat

/- The document's own Apply (careenref06). -/
namespace Go.Proofs.YtpiaknmjepjglaaGreat
open Go.RowKit

set_option maxRecDepth 100000
section
variable {w : World} {v : Value} {r : Rc} (a x : Int) (d : ByteArray)
set_option maxHeartbeats 8000000 in
theorem pgRefApply_form (hv : IsRec w v r) (h : ¬ PgOk a d) :
    Calls Tryz.prog 25 #[.agg #[.int .i64 a, .string d], .int .i64 x, v] w fun e w' => e = .returned (.agg #[.int .i64 a, .string d]) ∧ Below w.heap.size w w' := by
  have P := Lib.hid (fun W => pgRefRight_any a d W false (by simp [h]))
  clear h
  obtain ⟨vt, vp, rfl, hl⟩ := hv
  obtain ⟨ta, tc, e⟩ := hl.t.form
  subst e
  obtain ⟨pa, pc, e⟩ := hl.p.form
  subst e
  clear hl
  unfold recV recCells at *
  go_enter Tryz.func25, Tryz.ntmps25
  go_wp2_with fail
  have X0 := ((Blk.new w 45 #[.int .i64 a, .string d]).alloc (.cells #[.int .i64 r.kind, .int .i64 r.txn, .int .i64 r.page, .int .i64 r.off, .int .i64 r.prev, .int .i64 r.next, .int .i64 r.beg, .string r.before, .string r.after, .slice ta r.txns.length tc, .slice pa r.pages.length pc] 49)).alloc (.cells #[.int .i64 0, .string ⟨#[]⟩] 45)
  have Y0 := (Blk.new (w.alloc (.cells #[.int .i64 a, .string d] 45)) 49 #[.int .i64 r.kind, .int .i64 r.txn, .int .i64 r.page, .int .i64 r.off, .int .i64 r.prev, .int .i64 r.next, .int .i64 r.beg, .string r.before, .string r.after, .slice ta r.txns.length tc, .slice pa r.pages.length pc]).alloc (.cells #[.int .i64 0, .string ⟨#[]⟩] 45)
  have R0 := Blk.new ((w.alloc (.cells #[.int .i64 a, .string d] 45)).alloc (.cells #[.int .i64 r.kind, .int .i64 r.txn, .int .i64 r.page, .int .i64 r.off, .int .i64 r.prev, .int .i64 r.next, .int .i64 r.beg, .string r.before, .string r.after, .slice ta r.txns.length tc, .slice pa r.pages.length pc] 49)) 45 #[.int .i64 0, .string ⟨#[]⟩]
  simp only [World.size_alloc] at R0 Y0
  have hB := (((Below.refl w.heap.size w).alloc (Nat.le_refl _) (.cells #[.int .i64 a, .string d] 45)).alloc (by simp) (.cells #[.int .i64 r.kind, .int .i64 r.txn, .int .i64 r.page, .int .i64 r.off, .int .i64 r.prev, .int .i64 r.next, .int .i64 r.beg, .string r.before, .string r.after, .slice ta r.txns.length tc, .slice pa r.pages.length pc] 49)).alloc (by simp; omega) (.cells #[.int .i64 0, .string ⟨#[]⟩] 45)
  generalize ((w.alloc (.cells #[.int .i64 a, .string d] 45)).alloc _).alloc (.cells #[.int .i64 0, .string ⟨#[]⟩] 45) = w1 at *
  refine (P.out _).mono ?_
  rintro e w2 ⟨rfl, hb⟩
  have R2 := R0.keep hb R0.lt
  have X2 := X0.keep hb X0.lt
  have Y2 := Y0.keep hb Y0.lt
  replace hB := hB.trans (hb.mono hB.size)
  clear R0 X0 Y0 hb P
  have c0 := X2.cellAt (i := 0) (by simp)
  have c1 := X2.cellAt (i := 1) (by simp)
  have b0 := Y2.cellAt (i := 0) (by simp)
  have b3 := Y2.cellAt (i := 3) (by simp)
  have b8 := Y2.cellAt (i := 8) (by simp)
  simp at c0 c1 b0 b3 b8
  go_wp2_with (refine wpList_store_row rfl 45 _ _ rfl (w.heap.size + 1 + 1) _ rfl rfl 45 _ R2 (by kernel_rfl) (by simp) (by simp [Value.oneCell']) ?_)
  exact bodyPost_ret (results_cell_row rfl _ _ (w.heap.size + 1 + 1) 45 _ (0, 0) _ rfl (R2.setRow _) Tryz.underlying45 rfl (by kernel_rfl)) rfl ⟨rfl, below_setRow hB (by omega) _⟩

set_option maxHeartbeats 8000000 in
theorem pgRefApply_kind (hv : IsRec w v r) (h : PgOk a d) (hc : ¬ Chg r) :
    Calls Tryz.prog 25 #[.agg #[.int .i64 a, .string d], .int .i64 x, v] w fun e w' => e = .returned (.agg #[.int .i64 a, .string d]) ∧ Below w.heap.size w w' := by
  have P := Lib.hid (fun W => pgRefRight_any a d W true (by simp [h]))
  have k1 : (r.kind != 1) = true := by simp; exact fun h1 => hc (.inl h1)
  have k2 : (r.kind != 2) = true := by simp; exact fun h1 => hc (.inr h1)
  clear h hc
  obtain ⟨vt, vp, rfl, hl⟩ := hv
  obtain ⟨ta, tc, e⟩ := hl.t.form
  subst e
  obtain ⟨pa, pc, e⟩ := hl.p.form
  subst e
  clear hl
  unfold recV recCells at *
  go_enter Tryz.func25, Tryz.ntmps25
  go_wp2_with fail
  have X0 := ((Blk.new w 45 #[.int .i64 a, .string d]).alloc (.cells #[.int .i64 r.kind, .int .i64 r.txn, .int .i64 r.page, .int .i64 r.off, .int .i64 r.prev, .int .i64 r.next, .int .i64 r.beg, .string r.before, .string r.after, .slice ta r.txns.length tc, .slice pa r.pages.length pc] 49)).alloc (.cells #[.int .i64 0, .string ⟨#[]⟩] 45)
  have Y0 := (Blk.new (w.alloc (.cells #[.int .i64 a, .string d] 45)) 49 #[.int .i64 r.kind, .int .i64 r.txn, .int .i64 r.page, .int .i64 r.off, .int .i64 r.prev, .int .i64 r.next, .int .i64 r.beg, .string r.before, .string r.after, .slice ta r.txns.length tc, .slice pa r.pages.length pc]).alloc (.cells #[.int .i64 0, .string ⟨#[]⟩] 45)
  have R0 := Blk.new ((w.alloc (.cells #[.int .i64 a, .string d] 45)).alloc (.cells #[.int .i64 r.kind, .int .i64 r.txn, .int .i64 r.page, .int .i64 r.off, .int .i64 r.prev, .int .i64 r.next, .int .i64 r.beg, .string r.before, .string r.after, .slice ta r.txns.length tc, .slice pa r.pages.length pc] 49)) 45 #[.int .i64 0, .string ⟨#[]⟩]
  simp only [World.size_alloc] at R0 Y0
  have hB := (((Below.refl w.heap.size w).alloc (Nat.le_refl _) (.cells #[.int .i64 a, .string d] 45)).alloc (by simp) (.cells #[.int .i64 r.kind, .int .i64 r.txn, .int .i64 r.page, .int .i64 r.off, .int .i64 r.prev, .int .i64 r.next, .int .i64 r.beg, .string r.before, .string r.after, .slice ta r.txns.length tc, .slice pa r.pages.length pc] 49)).alloc (by simp; omega) (.cells #[.int .i64 0, .string ⟨#[]⟩] 45)
  generalize ((w.alloc (.cells #[.int .i64 a, .string d] 45)).alloc _).alloc (.cells #[.int .i64 0, .string ⟨#[]⟩] 45) = w1 at *
  refine (P.out _).mono ?_
  rintro e w2 ⟨rfl, hb⟩
  have R2 := R0.keep hb R0.lt
  have X2 := X0.keep hb X0.lt
  have Y2 := Y0.keep hb Y0.lt
  replace hB := hB.trans (hb.mono hB.size)
  clear R0 X0 Y0 hb P
  have c0 := X2.cellAt (i := 0) (by simp)
  have c1 := X2.cellAt (i := 1) (by simp)
  have b0 := Y2.cellAt (i := 0) (by simp)
  have b3 := Y2.cellAt (i := 3) (by simp)
  have b8 := Y2.cellAt (i := 8) (by simp)
  simp at c0 c1 b0 b3 b8
  go_wp2_with (refine wpList_store_row rfl 45 _ _ rfl (w.heap.size + 1 + 1) _ rfl rfl 45 _ R2 (by kernel_rfl) (by simp) (by simp [Value.oneCell']) ?_)
  exact bodyPost_ret (results_cell_row rfl _ _ (w.heap.size + 1 + 1) 45 _ (0, 0) _ rfl (R2.setRow _) Tryz.underlying45 rfl (by kernel_rfl)) rfl ⟨rfl, below_setRow hB (by omega) _⟩

set_option maxHeartbeats 8000000 in
theorem pgRefApply_old (hv : IsRec w v r) (h : PgOk a d) (hc : Chg r) (hx : ¬ a < x) :
    Calls Tryz.prog 25 #[.agg #[.int .i64 a, .string d], .int .i64 x, v] w fun e w' => e = .returned (.agg #[.int .i64 a, .string d]) ∧ Below w.heap.size w w' := by
  have P := Lib.hid (fun W => pgRefRight_any a d W true (by simp [h]))
  have hx' : x ≤ a := by omega
  have hC := Lib.hid hc
  clear h hx hc
  obtain ⟨vt, vp, rfl, hl⟩ := hv
  obtain ⟨ta, tc, e⟩ := hl.t.form
  subst e
  obtain ⟨pa, pc, e⟩ := hl.p.form
  subst e
  clear hl
  unfold recV recCells at *
  go_enter Tryz.func25, Tryz.ntmps25
  go_wp2_with fail
  have X0 := ((Blk.new w 45 #[.int .i64 a, .string d]).alloc (.cells #[.int .i64 r.kind, .int .i64 r.txn, .int .i64 r.page, .int .i64 r.off, .int .i64 r.prev, .int .i64 r.next, .int .i64 r.beg, .string r.before, .string r.after, .slice ta r.txns.length tc, .slice pa r.pages.length pc] 49)).alloc (.cells #[.int .i64 0, .string ⟨#[]⟩] 45)
  have Y0 := (Blk.new (w.alloc (.cells #[.int .i64 a, .string d] 45)) 49 #[.int .i64 r.kind, .int .i64 r.txn, .int .i64 r.page, .int .i64 r.off, .int .i64 r.prev, .int .i64 r.next, .int .i64 r.beg, .string r.before, .string r.after, .slice ta r.txns.length tc, .slice pa r.pages.length pc]).alloc (.cells #[.int .i64 0, .string ⟨#[]⟩] 45)
  have R0 := Blk.new ((w.alloc (.cells #[.int .i64 a, .string d] 45)).alloc (.cells #[.int .i64 r.kind, .int .i64 r.txn, .int .i64 r.page, .int .i64 r.off, .int .i64 r.prev, .int .i64 r.next, .int .i64 r.beg, .string r.before, .string r.after, .slice ta r.txns.length tc, .slice pa r.pages.length pc] 49)) 45 #[.int .i64 0, .string ⟨#[]⟩]
  simp only [World.size_alloc] at R0 Y0
  have hB := (((Below.refl w.heap.size w).alloc (Nat.le_refl _) (.cells #[.int .i64 a, .string d] 45)).alloc (by simp) (.cells #[.int .i64 r.kind, .int .i64 r.txn, .int .i64 r.page, .int .i64 r.off, .int .i64 r.prev, .int .i64 r.next, .int .i64 r.beg, .string r.before, .string r.after, .slice ta r.txns.length tc, .slice pa r.pages.length pc] 49)).alloc (by simp; omega) (.cells #[.int .i64 0, .string ⟨#[]⟩] 45)
  generalize ((w.alloc (.cells #[.int .i64 a, .string d] 45)).alloc _).alloc (.cells #[.int .i64 0, .string ⟨#[]⟩] 45) = w1 at *
  refine (P.out _).mono ?_
  rintro e w2 ⟨rfl, hb⟩
  have R2 := R0.keep hb R0.lt
  have X2 := X0.keep hb X0.lt
  have Y2 := Y0.keep hb Y0.lt
  replace hB := hB.trans (hb.mono hB.size)
  clear R0 X0 Y0 hb P
  have c0 := X2.cellAt (i := 0) (by simp)
  have c1 := X2.cellAt (i := 1) (by simp)
  have b0 := Y2.cellAt (i := 0) (by simp)
  have b3 := Y2.cellAt (i := 3) (by simp)
  have b8 := Y2.cellAt (i := 8) (by simp)
  simp at c0 c1 b0 b3 b8
  rcases hC.out with k | k
  · have k1 : (r.kind != 1) = false := by simp [k]
    have k2 : (r.kind != 2) = true := by simp [k]
    clear k
    go_wp2_with (refine wpList_store_row rfl 45 _ _ rfl (w.heap.size + 1 + 1) _ rfl rfl 45 _ R2 (by kernel_rfl) (by simp) (by simp [Value.oneCell']) ?_)
    exact bodyPost_ret (results_cell_row rfl _ _ (w.heap.size + 1 + 1) 45 _ (0, 0) _ rfl (R2.setRow _) Tryz.underlying45 rfl (by kernel_rfl)) rfl ⟨rfl, below_setRow hB (by omega) _⟩
  · have k1 : (r.kind != 1) = true := by simp [k]
    have k2 : (r.kind != 2) = false := by simp [k]
    clear k
    go_wp2_with (refine wpList_store_row rfl 45 _ _ rfl (w.heap.size + 1 + 1) _ rfl rfl 45 _ R2 (by kernel_rfl) (by simp) (by simp [Value.oneCell']) ?_)
    exact bodyPost_ret (results_cell_row rfl _ _ (w.heap.size + 1 + 1) 45 _ (0, 0) _ rfl (R2.setRow _) Tryz.underlying45 rfl (by kernel_rfl)) rfl ⟨rfl, below_setRow hB (by omega) _⟩

set_option maxHeartbeats 8000000 in
theorem pgRefApply_go (hv : IsRec w v r) (h : PgOk a d) (hc : Chg r) (hx : a < x) (A : Int) (D : ByteArray) (E : Int) (hp : putR a d r.off r.after x = (A, D, E)) :
    Calls Tryz.prog 25 #[.agg #[.int .i64 a, .string d], .int .i64 x, v] w fun e w' => e = .returned (if E = 0 then .agg #[.int .i64 A, .string D] else .agg #[.int .i64 a, .string d]) ∧ Below w.heap.size w w' := by
  have P := Lib.hid (fun W => pgRefRight_any a d W true (by simp [h]))
  have PP := Lib.hid (fun W => pgRefPut_any a r.off x d r.after W)
  rw [hp] at PP
  have hC := Lib.hid hc
  clear h hp hc
  obtain ⟨vt, vp, rfl, hl⟩ := hv
  obtain ⟨ta, tc, e⟩ := hl.t.form
  subst e
  obtain ⟨pa, pc, e⟩ := hl.p.form
  subst e
  clear hl
  unfold recV recCells at *
  go_enter Tryz.func25, Tryz.ntmps25
  go_wp2_with fail
  have X0 := ((Blk.new w 45 #[.int .i64 a, .string d]).alloc (.cells #[.int .i64 r.kind, .int .i64 r.txn, .int .i64 r.page, .int .i64 r.off, .int .i64 r.prev, .int .i64 r.next, .int .i64 r.beg, .string r.before, .string r.after, .slice ta r.txns.length tc, .slice pa r.pages.length pc] 49)).alloc (.cells #[.int .i64 0, .string ⟨#[]⟩] 45)
  have Y0 := (Blk.new (w.alloc (.cells #[.int .i64 a, .string d] 45)) 49 #[.int .i64 r.kind, .int .i64 r.txn, .int .i64 r.page, .int .i64 r.off, .int .i64 r.prev, .int .i64 r.next, .int .i64 r.beg, .string r.before, .string r.after, .slice ta r.txns.length tc, .slice pa r.pages.length pc]).alloc (.cells #[.int .i64 0, .string ⟨#[]⟩] 45)
  have R0 := Blk.new ((w.alloc (.cells #[.int .i64 a, .string d] 45)).alloc (.cells #[.int .i64 r.kind, .int .i64 r.txn, .int .i64 r.page, .int .i64 r.off, .int .i64 r.prev, .int .i64 r.next, .int .i64 r.beg, .string r.before, .string r.after, .slice ta r.txns.length tc, .slice pa r.pages.length pc] 49)) 45 #[.int .i64 0, .string ⟨#[]⟩]
  simp only [World.size_alloc] at R0 Y0
  have hB := (((Below.refl w.heap.size w).alloc (Nat.le_refl _) (.cells #[.int .i64 a, .string d] 45)).alloc (by simp) (.cells #[.int .i64 r.kind, .int .i64 r.txn, .int .i64 r.page, .int .i64 r.off, .int .i64 r.prev, .int .i64 r.next, .int .i64 r.beg, .string r.before, .string r.after, .slice ta r.txns.length tc, .slice pa r.pages.length pc] 49)).alloc (by simp; omega) (.cells #[.int .i64 0, .string ⟨#[]⟩] 45)
  generalize ((w.alloc (.cells #[.int .i64 a, .string d] 45)).alloc _).alloc (.cells #[.int .i64 0, .string ⟨#[]⟩] 45) = w1 at *
  refine (P.out _).mono ?_
  rintro e w2 ⟨rfl, hb⟩
  have R2 := R0.keep hb R0.lt
  have X2 := X0.keep hb X0.lt
  have Y2 := Y0.keep hb Y0.lt
  replace hB := hB.trans (hb.mono hB.size)
  clear R0 X0 Y0 hb P
  have c0 := X2.cellAt (i := 0) (by simp)
  have c1 := X2.cellAt (i := 1) (by simp)
  have b0 := Y2.cellAt (i := 0) (by simp)
  have b3 := Y2.cellAt (i := 3) (by simp)
  have b8 := Y2.cellAt (i := 8) (by simp)
  simp at c0 c1 b0 b3 b8
  rcases hC.out with k | k
  · have k1 : (r.kind != 1) = false := by simp [k]
    have k2 : (r.kind != 2) = true := by simp [k]
    clear k
    go_wp2_with fail
    refine (PP.out _).mono ?_
    rintro e w5 ⟨rfl, hb⟩
    replace R2 := R2.keep hb R2.lt
    replace X2 := X2.keep hb X2.lt
    replace hB := hB.trans (hb.mono hB.size)
    clear Y2 hb PP c0 c1 b0 b3 b8 hx k1 k2
    have N0 := Blk.new w5 45 #[.int .i64 0, .string ⟨#[]⟩]
    have N1 := N0.setRow #[.int .i64 A, .string D]
    have R6 := (R2.alloc (.cells #[.int .i64 0, .string ⟨#[]⟩] 45)).farRow (k := w5.heap.size) (by have := R2.lt; omega) #[.int .i64 A, .string D]
    have X6 := (X2.alloc (.cells #[.int .i64 0, .string ⟨#[]⟩] 45)).farRow (k := w5.heap.size) (by have := X2.lt; omega) #[.int .i64 A, .string D]
    have hB6 := below_setRow (hB.alloc hB.size (.cells #[.int .i64 0, .string ⟨#[]⟩] 45)) (g := w5.heap.size) hB.size #[.int .i64 A, .string D]
    go_upto_region 4 with (refine wpList_store_row rfl 45 _ _ rfl w5.heap.size _ rfl rfl 45 _ N0 (by kernel_rfl) (by simp) (by simp [Value.oneCell']) ?_)
    clear N0 R2 X2 hB
    generalize (w5.alloc _).setRow _ _ = w6 at *
    generalize w5.heap.size = g at *
    by_cases hE : E = 0
    · have h1 : (E != 0) = false := by simp [hE]
      have n0 := N1.cellAt (i := 0) (by simp)
      have n1 := N1.cellAt (i := 1) (by simp)
      simp at n0 n1
      have HE := Lib.hid hE
      clear hE
      go_wp2_with (refine wpList_store_row rfl 45 _ _ rfl (w.heap.size + 1 + 1) _ rfl rfl 45 _ R6 (by kernel_rfl) (by simp) (by simp [Value.oneCell']) ?_)
      exact bodyPost_ret (results_cell_row rfl _ _ (w.heap.size + 1 + 1) 45 _ (0, 0) _ rfl (R6.setRow _) Tryz.underlying45 rfl (by kernel_rfl)) rfl ⟨by first | rfl | rw [if_pos HE.out], below_setRow hB6 (by omega) _⟩
    · have h1 : (E != 0) = true := by simp [hE]
      have c0 := X6.cellAt (i := 0) (by simp)
      have c1 := X6.cellAt (i := 1) (by simp)
      simp at c0 c1
      have HE := Lib.hid hE
      clear hE N1
      go_wp2_with (refine wpList_store_row rfl 45 _ _ rfl (w.heap.size + 1 + 1) _ rfl rfl 45 _ R6 (by kernel_rfl) (by simp) (by simp [Value.oneCell']) ?_)
      exact bodyPost_ret (results_cell_row rfl _ _ (w.heap.size + 1 + 1) 45 _ (0, 0) _ rfl (R6.setRow _) Tryz.underlying45 rfl (by kernel_rfl)) rfl ⟨by first | rfl | rw [if_neg HE.out], below_setRow hB6 (by omega) _⟩
  · have k1 : (r.kind != 1) = true := by simp [k]
    have k2 : (r.kind != 2) = false := by simp [k]
    clear k
    go_wp2_with fail
    refine (PP.out _).mono ?_
    rintro e w5 ⟨rfl, hb⟩
    replace R2 := R2.keep hb R2.lt
    replace X2 := X2.keep hb X2.lt
    replace hB := hB.trans (hb.mono hB.size)
    clear Y2 hb PP c0 c1 b0 b3 b8 hx k1 k2
    have N0 := Blk.new w5 45 #[.int .i64 0, .string ⟨#[]⟩]
    have N1 := N0.setRow #[.int .i64 A, .string D]
    have R6 := (R2.alloc (.cells #[.int .i64 0, .string ⟨#[]⟩] 45)).farRow (k := w5.heap.size) (by have := R2.lt; omega) #[.int .i64 A, .string D]
    have X6 := (X2.alloc (.cells #[.int .i64 0, .string ⟨#[]⟩] 45)).farRow (k := w5.heap.size) (by have := X2.lt; omega) #[.int .i64 A, .string D]
    have hB6 := below_setRow (hB.alloc hB.size (.cells #[.int .i64 0, .string ⟨#[]⟩] 45)) (g := w5.heap.size) hB.size #[.int .i64 A, .string D]
    go_upto_region 4 with (refine wpList_store_row rfl 45 _ _ rfl w5.heap.size _ rfl rfl 45 _ N0 (by kernel_rfl) (by simp) (by simp [Value.oneCell']) ?_)
    clear N0 R2 X2 hB
    generalize (w5.alloc _).setRow _ _ = w6 at *
    generalize w5.heap.size = g at *
    by_cases hE : E = 0
    · have h1 : (E != 0) = false := by simp [hE]
      have n0 := N1.cellAt (i := 0) (by simp)
      have n1 := N1.cellAt (i := 1) (by simp)
      simp at n0 n1
      have HE := Lib.hid hE
      clear hE
      go_wp2_with (refine wpList_store_row rfl 45 _ _ rfl (w.heap.size + 1 + 1) _ rfl rfl 45 _ R6 (by kernel_rfl) (by simp) (by simp [Value.oneCell']) ?_)
      exact bodyPost_ret (results_cell_row rfl _ _ (w.heap.size + 1 + 1) 45 _ (0, 0) _ rfl (R6.setRow _) Tryz.underlying45 rfl (by kernel_rfl)) rfl ⟨by first | rfl | rw [if_pos HE.out], below_setRow hB6 (by omega) _⟩
    · have h1 : (E != 0) = true := by simp [hE]
      have c0 := X6.cellAt (i := 0) (by simp)
      have c1 := X6.cellAt (i := 1) (by simp)
      simp at c0 c1
      have HE := Lib.hid hE
      clear hE N1
      go_wp2_with (refine wpList_store_row rfl 45 _ _ rfl (w.heap.size + 1 + 1) _ rfl rfl 45 _ R6 (by kernel_rfl) (by simp) (by simp [Value.oneCell']) ?_)
      exact bodyPost_ret (results_cell_row rfl _ _ (w.heap.size + 1 + 1) 45 _ (0, 0) _ rfl (R6.setRow _) Tryz.underlying45 rfl (by kernel_rfl)) rfl ⟨by first | rfl | rw [if_neg HE.out], below_setRow hB6 (by omega) _⟩

/-- The document's own Apply, as one answer: the program's. -/
theorem pgRefApply_any (hv : IsRec w v r) :
    Calls Tryz.prog 25 #[.agg #[.int .i64 a, .string d], .int .i64 x, v] w fun e w' => e = .returned (.agg #[.int .i64 (applyR a d x r).1, .string (applyR a d x r).2]) ∧ Below w.heap.size w w' := by
  by_cases h0 : PgOk a d
  · by_cases hc : Chg r
    · by_cases hx : a < x
      · refine (pgRefApply_go a x d hv h0 hc hx (putR a d r.off r.after x).1 (putR a d r.off r.after x).2.1 (putR a d r.off r.after x).2.2 rfl).mono ?_
        rintro e w' ⟨rfl, hb⟩
        refine ⟨?_, hb⟩
        unfold applyR
        by_cases hE : (putR a d r.off r.after x).2.2 = 0
        · rw [if_pos hE, if_pos ⟨hc, hx, hE⟩]
        · rw [if_neg hE, if_neg fun h' => hE h'.2.2]
      · have e : applyR a d x r = (a, d) := if_neg fun h' => hx h'.2.1
        rw [e]
        exact pgRefApply_old a x d hv h0 hc hx
    · have e : applyR a d x r = (a, d) := if_neg fun h' => hc h'.1
      rw [e]
      exact pgRefApply_kind a x d hv h0 hc
  · have e : applyR a d x r = (a, d) := if_neg fun h' => by
      have h2 := h'.2.2
      unfold putR at h2
      rw [if_neg h0] at h2
      cases h2
    rw [e]
    exact pgRefApply_form a x d hv h0
end
end Go.Proofs.YtpiaknmjepjglaaGreat
