/- The document's own Put and Get (careenref06). -/
import Derived.Test.YtkodnjefdophmaaPgD
namespace Go.Proofs.Ytkodnjefdophmaa
open Go.RowKit

/-- A text with another one in it, as pieces behind one another. -/
theorem putS_pieces (d s : ByteArray) (o : Nat) : d.extract 0 o ++ s ++ d.extract (o + s.size) d.size = putS d o s := by
  apply str_ext
  rw [putS_data]
  unfold splice
  simp [ByteArray.data_append]
  exact List.take_of_length_le (by simp)
section
variable (a o x n : Int) (d s : ByteArray) (w : World)

set_option maxRecDepth 100000 in
set_option maxHeartbeats 4000000 in
theorem pgRefPut_form (h : ¬ PgOk a d) : Calls Try.prog 26 #[.agg #[.int .i64 a, .string d], .int .i64 o, .string s, .int .i64 x] w fun e w' => e = .returned (.tuple #[.agg #[.int .i64 0, .string ⟨#[]⟩], .int .i64 3]) ∧ Below w.heap.size w w' := by
  have P := Lib.hid (fun W => pgRefRight_any a d W false (by simp [h]))
  go_enter Try.func26, Try.ntmps26
  go_wp2_with fail
  have R0 := Blk.new (w.alloc (.cells #[.int .i64 a, .string d] 30)) 30 #[.int .i64 0, .string ⟨#[]⟩]
  have X0 := (Blk.new w 30 #[.int .i64 a, .string d]).alloc (.cells #[.int .i64 0, .string ⟨#[]⟩] 30)
  simp only [World.size_alloc] at R0
  have hB := ((Below.refl w.heap.size w).alloc (Nat.le_refl _) (.cells #[.int .i64 a, .string d] 30)).alloc (by simp) (.cells #[.int .i64 0, .string ⟨#[]⟩] 30)
  generalize (w.alloc (.cells #[.int .i64 a, .string d] 30)).alloc (.cells #[.int .i64 0, .string ⟨#[]⟩] 30) = w1 at *
  refine (P.out _).mono ?_
  rintro e w2 ⟨rfl, hb⟩
  have R2 := R0.keep hb R0.lt
  have X2 := X0.keep hb X0.lt
  replace hB := hB.trans (hb.mono hB.size)
  clear R0 X0 hb P
  go_wp2_with (refine wpList_store_row rfl 30 _ _ rfl (w.heap.size + 1) _ rfl rfl 30 _ R2 (by kernel_rfl) (by simp) (by simp [Value.oneCell']) ?_)
  exact bodyPost_ret (results_row_tmp rfl _ _ (w.heap.size + 1) 30 _ _ rfl (R2.setRow _) Try.underlying30 rfl (by kernel_rfl)) rfl ⟨rfl, below_setRow hB (by omega) _⟩

set_option maxRecDepth 100000 in
set_option maxHeartbeats 4000000 in
theorem pgRefPut_place (h : PgOk a d) (hx : ¬ Num x) : Calls Try.prog 26 #[.agg #[.int .i64 a, .string d], .int .i64 o, .string s, .int .i64 x] w fun e w' => e = .returned (.tuple #[.agg #[.int .i64 0, .string ⟨#[]⟩], .int .i64 1]) ∧ Below w.heap.size w w' := by
  have P := Lib.hid (fun W => pgRefRight_any a d W true (by simp [h]))
  go_enter Try.func26, Try.ntmps26
  go_wp2_with fail
  have R0 := Blk.new (w.alloc (.cells #[.int .i64 a, .string d] 30)) 30 #[.int .i64 0, .string ⟨#[]⟩]
  have X0 := (Blk.new w 30 #[.int .i64 a, .string d]).alloc (.cells #[.int .i64 0, .string ⟨#[]⟩] 30)
  simp only [World.size_alloc] at R0
  have hB := ((Below.refl w.heap.size w).alloc (Nat.le_refl _) (.cells #[.int .i64 a, .string d] 30)).alloc (by simp) (.cells #[.int .i64 0, .string ⟨#[]⟩] 30)
  generalize (w.alloc (.cells #[.int .i64 a, .string d] 30)).alloc (.cells #[.int .i64 0, .string ⟨#[]⟩] 30) = w1 at *
  refine (P.out _).mono ?_
  rintro e w2 ⟨rfl, hb⟩
  have R2 := R0.keep hb R0.lt
  have X2 := X0.keep hb X0.lt
  replace hB := hB.trans (hb.mono hB.size)
  clear R0 X0 hb P
  by_cases h0 : x < 0
  · clear hx
    go_wp2_with (refine wpList_store_row rfl 30 _ _ rfl (w.heap.size + 1) _ rfl rfl 30 _ R2 (by kernel_rfl) (by simp) (by simp [Value.oneCell']) ?_)
    exact bodyPost_ret (results_row_tmp rfl _ _ (w.heap.size + 1) 30 _ _ rfl (R2.setRow _) Try.underlying30 rfl (by kernel_rfl)) rfl ⟨rfl, below_setRow hB (by omega) _⟩
  · have h1 : (2147483647 : Int) < x := by unfold Num at hx; omega
    clear hx
    go_wp2_with (refine wpList_store_row rfl 30 _ _ rfl (w.heap.size + 1) _ rfl rfl 30 _ R2 (by kernel_rfl) (by simp) (by simp [Value.oneCell']) ?_)
    exact bodyPost_ret (results_row_tmp rfl _ _ (w.heap.size + 1) 30 _ _ rfl (R2.setRow _) Try.underlying30 rfl (by kernel_rfl)) rfl ⟨rfl, below_setRow hB (by omega) _⟩

set_option maxRecDepth 100000 in
set_option maxHeartbeats 4000000 in
theorem pgRefPut_range (h : PgOk a d) (hx : Num x) (hf : ¬ InPage o s.size) : Calls Try.prog 26 #[.agg #[.int .i64 a, .string d], .int .i64 o, .string s, .int .i64 x] w fun e w' => e = .returned (.tuple #[.agg #[.int .i64 0, .string ⟨#[]⟩], .int .i64 2]) ∧ Below w.heap.size w w' := by
  have P := Lib.hid (fun W => pgRefRight_any a d W true (by simp [h]))
  go_enter Try.func26, Try.ntmps26
  go_wp2_with fail
  have R0 := Blk.new (w.alloc (.cells #[.int .i64 a, .string d] 30)) 30 #[.int .i64 0, .string ⟨#[]⟩]
  have X0 := (Blk.new w 30 #[.int .i64 a, .string d]).alloc (.cells #[.int .i64 0, .string ⟨#[]⟩] 30)
  simp only [World.size_alloc] at R0
  have hB := ((Below.refl w.heap.size w).alloc (Nat.le_refl _) (.cells #[.int .i64 a, .string d] 30)).alloc (by simp) (.cells #[.int .i64 0, .string ⟨#[]⟩] 30)
  generalize (w.alloc (.cells #[.int .i64 a, .string d] 30)).alloc (.cells #[.int .i64 0, .string ⟨#[]⟩] 30) = w1 at *
  refine (P.out _).mono ?_
  rintro e w2 ⟨rfl, hb⟩
  have R2 := R0.keep hb R0.lt
  have X2 := X0.keep hb X0.lt
  replace hB := hB.trans (hb.mono hB.size)
  clear R0 X0 hb P
  obtain ⟨h0, h1⟩ := hx
  clear h
  by_cases h2 : o < 0
  · clear hf
    go_wp2_with (refine wpList_store_row rfl 30 _ _ rfl (w.heap.size + 1) _ rfl rfl 30 _ R2 (by kernel_rfl) (by simp) (by simp [Value.oneCell']) ?_)
    exact bodyPost_ret (results_row_tmp rfl _ _ (w.heap.size + 1) 30 _ _ rfl (R2.setRow _) Try.underlying30 rfl (by kernel_rfl)) rfl ⟨rfl, below_setRow hB (by omega) _⟩
  · by_cases h3 : (220 : Int) < o
    · clear hf
      go_wp2_with (refine wpList_store_row rfl 30 _ _ rfl (w.heap.size + 1) _ rfl rfl 30 _ R2 (by kernel_rfl) (by simp) (by simp [Value.oneCell']) ?_)
      exact bodyPost_ret (results_row_tmp rfl _ _ (w.heap.size + 1) 30 _ _ rfl (R2.setRow _) Try.underlying30 rfl (by kernel_rfl)) rfl ⟨rfl, below_setRow hB (by omega) _⟩
    · have h4 : (220 - o : Int) < s.size := by unfold InPage at hf; omega
      clear hf
      go_wp2_with (refine wpList_store_row rfl 30 _ _ rfl (w.heap.size + 1) _ rfl rfl 30 _ R2 (by kernel_rfl) (by simp) (by simp [Value.oneCell']) ?_)
      exact bodyPost_ret (results_row_tmp rfl _ _ (w.heap.size + 1) 30 _ _ rfl (R2.setRow _) Try.underlying30 rfl (by kernel_rfl)) rfl ⟨rfl, below_setRow hB (by omega) _⟩

set_option maxRecDepth 100000 in
set_option maxHeartbeats 4000000 in
theorem pgRefPut_ok (O : Nat) (h : PgOk a d) (hx : Num x) (hO : O + s.size ≤ 220) : Calls Try.prog 26 #[.agg #[.int .i64 a, .string d], .int .i64 O, .string s, .int .i64 x] w fun e w' => e = .returned (.tuple #[.agg #[.int .i64 x, .string (putS d O s)], .int .i64 0]) ∧ Below w.heap.size w w' := by
  have P := Lib.hid (fun W => pgRefRight_any a d W true (by simp [h]))
  obtain ⟨h0, h1⟩ := hx
  have hd := h.2
  have hp := putS_pieces d s O
  rw [hd] at hp
  replace hp := Lib.hid hp
  clear h
  have h2 : (O : Int) ≤ 220 := by omega
  have h4 : (s.size : Int) ≤ 220 - O := by omega
  have hsl : ∀ W, (Instr.slice 9 (.string d) none (some (.int .i64 O)) none).run Try.prog W = .ok (.string (d.extract 0 O)) W := fun W => by
    have := run_slice_string_h (P := Try.prog) (w := W) (t := 9) d Try.underlying9 .i64 O (by omega) (by omega)
    simpa using this
  go_enter Try.func26, Try.ntmps26
  go_wp2_with fail
  have R0 := Blk.new (w.alloc (.cells #[.int .i64 a, .string d] 30)) 30 #[.int .i64 0, .string ⟨#[]⟩]
  have X0 := (Blk.new w 30 #[.int .i64 a, .string d]).alloc (.cells #[.int .i64 0, .string ⟨#[]⟩] 30)
  simp only [World.size_alloc] at R0
  have hB := ((Below.refl w.heap.size w).alloc (Nat.le_refl _) (.cells #[.int .i64 a, .string d] 30)).alloc (by simp) (.cells #[.int .i64 0, .string ⟨#[]⟩] 30)
  generalize (w.alloc (.cells #[.int .i64 a, .string d] 30)).alloc (.cells #[.int .i64 0, .string ⟨#[]⟩] 30) = w1 at *
  refine (P.out _).mono ?_
  rintro e w2 ⟨rfl, hb⟩
  have R2 := R0.keep hb R0.lt
  have X2 := X0.keep hb X0.lt
  have c1 := X2.cellAt (i := 1) (by simp)
  simp at c1
  replace hB := hB.trans (hb.mono hB.size)
  clear R0 X0 hb P
  have z1 : (d.extract 0 O).size = O := by rw [ByteArray.size_extract]; omega
  have z2 : (d.extract (O + s.size) 220).size = 220 - (O + s.size) := by rw [ByteArray.size_extract]; omega
  have hA1 : ∀ W, (Op.stringOp .add (d.extract 0 O) s).run Try.prog W = .ok (.string (d.extract 0 O ++ s)) W := fun W => run_string_add_sum W _ _ (by omega)
  have hA2 : ∀ W, (Op.stringOp .add (d.extract 0 O ++ s) (d.extract (O + s.size) 220)).run Try.prog W = .ok (.string (d.extract 0 O ++ s ++ d.extract (O + s.size) 220)) W := fun W => run_string_add_sum W _ _ (by rw [ByteArray.size_append]; omega)
  have hw : IntKind.i64.wrap ((O : Int) + s.size) = (O : Int) + s.size := by rw [IntKind.wrap_i64]; omega
  have hsl2 := slice_from (P := Try.prog) 9 Try.underlying9 d (O + s.size) .i64 ((O : Int) + s.size) (by omega) (by omega)
  rw [hd] at hsl2
  clear z1 z2
  have hd' := Lib.hid hd
  go_upto_region 7 with fail
  clear h0 h1 h2 h4 hd
  go_still_tail 16, (by kernel_rfl)
  change wpList _ _ _ _ _ w2.drew
  replace R2 := R2.drew
  replace hB := hB.drew
  clear hsl hsl2 hA1 hA2 hw X2 c1
  rw [hp.out]
  generalize w2.drew = w3 at *
  go_wp2_with (refine wpList_store_row rfl 30 _ _ rfl (w.heap.size + 1) _ rfl rfl 30 _ R2 (by kernel_rfl) (by simp) (by simp [Value.oneCell']) ?_)
  exact bodyPost_ret (results_row_tmp rfl _ _ (w.heap.size + 1) 30 _ _ rfl (R2.setRow _) Try.underlying30 rfl (by kernel_rfl)) rfl ⟨rfl, below_setRow hB (by omega) _⟩
end
end Go.Proofs.Ytkodnjefdophmaa
