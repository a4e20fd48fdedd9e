/- Package page: Put and Get. -/
import Derived.Test.YtkodnjefdophmaaPgC
import Derived.Test.YtkodnjefdophmaaPgA2
import Derived.Test.YtkodnjefdophmaaPgPl
import Derived.Test.YtkodnjefdophmaaClone
namespace Go.Proofs.Ytkodnjefdophmaa
open Go.RowKit

section
variable (a o x n : Int) (d s : ByteArray) (w : World)
set_option maxRecDepth 100000 in
set_option maxHeartbeats 4000000 in
theorem pgPut_form (h : ¬ PgOk a d) : Calls Try.prog 34 #[.agg #[.int .i64 a, .string d], .int .i64 o, .string s, .int .i64 x] w fun e w' => e = .returned (.tuple #[.agg #[.int .i64 0, .string ⟨#[]⟩], .int .i64 3]) ∧ Below w.heap.size w w' := by
  have P := Lib.hid (fun W => pgRight_any a d W false (by simp [h]))
  go_enter Try.func34, Try.ntmps34
  go_wp2_with fail
  have R0 := Blk.new (w.alloc (.cells #[.int .i64 a, .string d] 30)) 30 #[.int .i64 0, .string ⟨#[]⟩]
  have X0 := (Blk.new w 30 #[.int .i64 a, .string d]).alloc (.cells #[.int .i64 0, .string ⟨#[]⟩] 30)
  simp only [World.size_alloc] at R0
  have hB := ((Below.refl w.heap.size w).alloc (Nat.le_refl _) (.cells #[.int .i64 a, .string d] 30)).alloc (by simp) (.cells #[.int .i64 0, .string ⟨#[]⟩] 30)
  generalize (w.alloc (.cells #[.int .i64 a, .string d] 30)).alloc (.cells #[.int .i64 0, .string ⟨#[]⟩] 30) = w1 at *
  refine (P.out _).mono ?_
  rintro e w2 ⟨rfl, hb⟩
  have R2 := R0.keep hb R0.lt
  have X2 := X0.keep hb X0.lt
  replace hB := hB.trans (hb.mono hB.size)
  clear R0 X0 hb P
  go_wp2_with (refine wpList_store_row rfl 30 _ _ rfl (w.heap.size + 1) _ rfl rfl 30 _ R2 (by kernel_rfl) (by simp) (by simp [Value.oneCell']) ?_)
  exact bodyPost_ret (results_row_tmp rfl _ _ (w.heap.size + 1) 30 _ _ rfl (R2.setRow _) Try.underlying30 rfl (by kernel_rfl)) rfl ⟨rfl, below_setRow hB (by omega) _⟩

set_option maxRecDepth 100000 in
set_option maxHeartbeats 4000000 in
theorem pgPut_place (h : PgOk a d) (hx : ¬ Num x) : Calls Try.prog 34 #[.agg #[.int .i64 a, .string d], .int .i64 o, .string s, .int .i64 x] w fun e w' => e = .returned (.tuple #[.agg #[.int .i64 0, .string ⟨#[]⟩], .int .i64 1]) ∧ Below w.heap.size w w' := by
  have P := Lib.hid (fun W => pgRight_any a d W true (by simp [h]))
  have M := Lib.hid (fun W => pgMayPlace_any x W false (by simp [hx]))
  clear h hx
  go_enter Try.func34, Try.ntmps34
  go_wp2_with fail
  have R0 := Blk.new (w.alloc (.cells #[.int .i64 a, .string d] 30)) 30 #[.int .i64 0, .string ⟨#[]⟩]
  have X0 := (Blk.new w 30 #[.int .i64 a, .string d]).alloc (.cells #[.int .i64 0, .string ⟨#[]⟩] 30)
  simp only [World.size_alloc] at R0
  have hB := ((Below.refl w.heap.size w).alloc (Nat.le_refl _) (.cells #[.int .i64 a, .string d] 30)).alloc (by simp) (.cells #[.int .i64 0, .string ⟨#[]⟩] 30)
  generalize (w.alloc (.cells #[.int .i64 a, .string d] 30)).alloc (.cells #[.int .i64 0, .string ⟨#[]⟩] 30) = w1 at *
  refine (P.out _).mono ?_
  rintro e w2 ⟨rfl, hb⟩
  have R2 := R0.keep hb R0.lt
  have X2 := X0.keep hb X0.lt
  replace hB := hB.trans (hb.mono hB.size)
  clear R0 X0 hb P
  go_wp2_with fail
  refine (M.out _).mono ?_
  rintro e w3 ⟨rfl, rfl⟩
  go_wp2_with (refine wpList_store_row rfl 30 _ _ rfl (w.heap.size + 1) _ rfl rfl 30 _ R2 (by kernel_rfl) (by simp) (by simp [Value.oneCell']) ?_)
  exact bodyPost_ret (results_row_tmp rfl _ _ (w.heap.size + 1) 30 _ _ rfl (R2.setRow _) Try.underlying30 rfl (by kernel_rfl)) rfl ⟨rfl, below_setRow hB (by omega) _⟩

set_option maxRecDepth 100000 in
set_option maxHeartbeats 4000000 in
theorem pgPut_range (h : PgOk a d) (hx : Num x) (hs : s.size ≤ maxLen) (hf : ¬ InPage o s.size) : Calls Try.prog 34 #[.agg #[.int .i64 a, .string d], .int .i64 o, .string s, .int .i64 x] w fun e w' => e = .returned (.tuple #[.agg #[.int .i64 0, .string ⟨#[]⟩], .int .i64 2]) ∧ Below w.heap.size w w' := by
  have P := Lib.hid (fun W => pgRight_any a d W true (by simp [h]))
  have M := Lib.hid (fun W => pgMayPlace_any x W true (by simp [hx]))
  have F := Lib.hid (fun W => pgFits_any o s.size W (sizeWf hs) false (by simp [hf]))
  clear h hx hs hf
  go_enter Try.func34, Try.ntmps34
  go_wp2_with fail
  have R0 := Blk.new (w.alloc (.cells #[.int .i64 a, .string d] 30)) 30 #[.int .i64 0, .string ⟨#[]⟩]
  have X0 := (Blk.new w 30 #[.int .i64 a, .string d]).alloc (.cells #[.int .i64 0, .string ⟨#[]⟩] 30)
  simp only [World.size_alloc] at R0
  have hB := ((Below.refl w.heap.size w).alloc (Nat.le_refl _) (.cells #[.int .i64 a, .string d] 30)).alloc (by simp) (.cells #[.int .i64 0, .string ⟨#[]⟩] 30)
  generalize (w.alloc (.cells #[.int .i64 a, .string d] 30)).alloc (.cells #[.int .i64 0, .string ⟨#[]⟩] 30) = w1 at *
  refine (P.out _).mono ?_
  rintro e w2 ⟨rfl, hb⟩
  have R2 := R0.keep hb R0.lt
  have X2 := X0.keep hb X0.lt
  replace hB := hB.trans (hb.mono hB.size)
  clear R0 X0 hb P
  go_wp2_with fail
  refine (M.out _).mono ?_
  rintro e w3 ⟨rfl, rfl⟩
  go_wp2_with fail
  refine (F.out _).mono ?_
  rintro e w4 ⟨rfl, rfl⟩
  go_wp2_with (refine wpList_store_row rfl 30 _ _ rfl (w.heap.size + 1) _ rfl rfl 30 _ R2 (by kernel_rfl) (by simp) (by simp [Value.oneCell']) ?_)
  exact bodyPost_ret (results_row_tmp rfl _ _ (w.heap.size + 1) 30 _ _ rfl (R2.setRow _) Try.underlying30 rfl (by kernel_rfl)) rfl ⟨rfl, below_setRow hB (by omega) _⟩

set_option maxRecDepth 100000 in
set_option maxHeartbeats 4000000 in
theorem pgPut_ok (A O X : Nat) (hA : A ≤ 2147483647) (hd : d.size = 220) (hX : X ≤ 2147483647) (hO : O + s.size ≤ 220) : Calls Try.prog 34 #[.agg #[.int .i64 A, .string d], .int .i64 O, .string s, .int .i64 X] w fun e w' => e = .returned (.tuple #[.agg #[.int .i64 X, .string (putS d O s)], .int .i64 0]) ∧ Below w.heap.size w w' := by
  have P := Lib.hid (fun W => pgRight_any A d W true (by simp [PgOk, Num]; omega))
  have M := Lib.hid (fun W => pgMayPlace_any X W true (by simp [Num]; omega))
  have F := Lib.hid (fun W => pgFits_any O s.size W (sizeWf (by unfold maxLen; omega)) true (by simp [InPage]; omega))
  have L := Lib.hid (fun W => pgLay_any X d W hX hd)
  go_enter Try.func34, Try.ntmps34
  go_wp2_with fail
  have R0 := Blk.new (w.alloc (.cells #[.int .i64 A, .string d] 30)) 30 #[.int .i64 0, .string ⟨#[]⟩]
  have X0 := (Blk.new w 30 #[.int .i64 A, .string d]).alloc (.cells #[.int .i64 0, .string ⟨#[]⟩] 30)
  simp only [World.size_alloc] at R0
  have hB := ((Below.refl w.heap.size w).alloc (Nat.le_refl _) (.cells #[.int .i64 A, .string d] 30)).alloc (by simp) (.cells #[.int .i64 0, .string ⟨#[]⟩] 30)
  generalize (w.alloc (.cells #[.int .i64 A, .string d] 30)).alloc (.cells #[.int .i64 0, .string ⟨#[]⟩] 30) = w1 at *
  refine (P.out _).mono ?_
  rintro e w2 ⟨rfl, hb⟩
  have R2 := R0.keep hb R0.lt
  have X2 := X0.keep hb X0.lt
  replace hB := hB.trans (hb.mono hB.size)
  clear R0 X0 hb P
  go_wp2_with fail
  refine (M.out _).mono ?_
  rintro e w3 ⟨rfl, rfl⟩
  go_wp2_with fail
  refine (F.out _).mono ?_
  rintro e w4 ⟨rfl, rfl⟩
  clear M F
  have c0 := X2.cellAt (i := 0) (by simp)
  have f0 := X2.frozen 0
  have X3 := X2.set 0 (.int .i64 X)
  simp at c0 X3
  have d0 := X3.cellAt (i := 0) (by simp)
  have d1 := X3.cellAt (i := 1) (by simp)
  simp at d0 d1
  have R3 := R2.far (p := ⟨w.heap.size, 0, none⟩) (by show w.heap.size + 1 ≠ w.heap.size; omega) (.int .i64 X)
  have hB3 := hB.setCell (p := ⟨w.heap.size, 0, none⟩) (Nat.le_refl _) (.int .i64 X)
  have hz := zeroP_run
  have Z1 : (bytesV (List.replicate 224 0)).size = 224 := by rw [bytesV_size]; simp
  generalize bytesV (List.replicate 224 0) = cz at *
  have hZ := Lib.hid Z1
  clear Z1
  go_wp2_with fail
  clear X2 R2 hB c0 f0 d0 d1
  generalize w2.setCell _ _ = w5 at *
  refine (L.out _).mono ?_
  rintro e w6 ⟨rfl, hb⟩
  have R6 := R3.keep hb R3.lt
  have hB6 := hB3.trans (hb.mono hB3.size)
  clear X3 R3 hB3 hb L
  have hgl := R6.lt
  have K6 := Blk.new w6 54 cz
  have R7 := (R6.alloc (.cells cz 54)).farRow (k := w6.heap.size) (by have := R6.lt; omega) (bytesV (be4 X ++ d.data.toList))
  have hB7 := below_setRow (hB6.alloc hB6.size (.cells cz 54)) (g := w6.heap.size) hB6.size (bytesV (be4 X ++ d.data.toList))
  have K7 := K6.setRow (bytesV (be4 X ++ d.data.toList))
  have LS : (be4 X ++ d.data.toList).length = 224 := by
    have hd' : d.data.toList.length = 220 := hd
    simp [be4_len, hd']
  have S1 : (bytesV (be4 X ++ d.data.toList)).size = 224 := by rw [bytesV_size]; exact LS
  have S3 := bytesV_one (be4 X ++ d.data.toList)
  have hS := Lib.hid S1
  have hS3 := Lib.hid S3
  have hLS := Lib.hid LS
  clear R6 hB6 S1 S3 LS
  generalize hL6 : be4 X ++ d.data.toList = L6 at *
  replace hL6 := Lib.hid hL6
  go_upto_region 9 with (refine wpList_store_row rfl 54 _ _ rfl w6.heap.size _ rfl rfl 54 _ K6 (by rw [hS.out]; kernel_rfl) (by rw [hS.out, hZ.out]) hS3.out ?_)
  clear K6
  generalize (w6.alloc _).setRow _ _ = w7 at *
  have g0 : (0 : Int) ≤ 4 + O := by omega
  have g1 : 4 + (O : Int) ≤ 224 := by omega
  generalize hg : w6.heap.size = g at *
  have hne : g ≠ w.heap.size + 1 := by omega
  have hgw : w.heap.size ≤ g := by omega
  clear hgl
  have hN : num4 (splice L6 (4 + O) s.data.toList) = X := by
    rw [← hL6.out, splice_page, num4_be4 _ (by omega)]
  have hD : (⟨(List.drop 4 (splice L6 (4 + O) s.data.toList)).toArray⟩ : ByteArray) = putS d O s := by
    rw [← hL6.out, splice_page, List.drop_left' (be4_len X)]
    rfl
  have hLn : (splice L6 (4 + O) s.data.toList).length = 224 := by
    rw [length_splice _ _ _ (by rw [hLS.out, size_bytes]; omega)]
    exact hLS.out
  have Q := Lib.hid (fun W => page_any (splice L6 (4 + O) s.data.toList) W hLn)
  rw [hN, hD] at Q
  clear hN hD
  have hcp0 : O = 220 → (Builtin.copy_ #[33, 9] 3 #[.slice (some ⟨g, 0, none⟩) 0 0, .string s]).run Try.prog w7 = .ok (.int .i64 s.size) (w7.setRow g (bytesV (splice L6 (4 + O) s.data.toList))) := fun h => by
    have hs0 : s.size = 0 := by omega
    have h := Lib.run_copy_row_string (P := Try.prog) w7 33 9 3 5 g 0 0 0 s _ 54 Try.underlying33 info_u8 K7 (by omega) (by rw [bytesV_size]; omega)
    rw [← size_bytes s, bytesV_splice, size_bytes s] at h
    have hs1 : s.data.toList = [] := List.eq_nil_of_length_eq_zero hs0
    rw [hs1, splice_nil] at h ⊢
    exact h
  have hcp1 : (Builtin.copy_ #[33, 9] 3 #[.slice (some ⟨g, 4 + O, none⟩) (224 - (4 + O)) (224 - (4 + O)), .string s]).run Try.prog w7 = .ok (.int .i64 s.size) (w7.setRow g (bytesV (splice L6 (4 + O) s.data.toList))) := by
    have h := Lib.run_copy_row_string (P := Try.prog) w7 33 9 3 5 g (4 + O) (224 - (4 + O)) (224 - (4 + O)) s _ 54 Try.underlying33 info_u8 K7 (by omega) (by rw [bytesV_size, hLS.out]; omega)
    rw [← size_bytes s, bytesV_splice, size_bytes s] at h
    exact h
  have K8 := K7.setRow (bytesV (splice L6 (4 + O) s.data.toList))
  have R8 := R7.farRow (k := g) (Ne.symm hne) (bytesV (splice L6 (4 + O) s.data.toList))
  have hB8 := below_setRow hB7 (g := g) hgw (bytesV (splice L6 (4 + O) s.data.toList))
  have S8 : Hid ((bytesV (splice L6 (4 + O) s.data.toList)).size = 224) := by show _ = _; rw [bytesV_size]; exact hLn
  clear K7 R7 hB7 hLn
  generalize bytesV (splice L6 (4 + O) s.data.toList) = c8 at *
  generalize w7.setRow g c8 = w8 at *
  by_cases h220 : O = 220
  · replace hcp0 := hcp0 h220
    have hz0 : 224 - (4 + O) = 0 := by omega
    clear hcp1
    go_upto_region 10 with fail
    clear hcp0
    go_wp2_with (refine wpList_load_row rfl 54 _ rfl g rfl 54 _ (0, 0) _ K8 Try.underlying54 rfl (by rw [S8.out]; kernel_rfl) ?_)
    refine (Q.out _).mono ?_
    rintro e w9 ⟨rfl, hb9⟩
    have R9 := R8.keep hb9 R8.lt
    have hB9 := hB8.trans (hb9.mono hB8.size)
    clear R8 hB8 hb9 K8 Q
    go_wp2_with (refine wpList_store_row rfl 30 _ _ rfl (w.heap.size + 1) _ rfl rfl 30 _ R9 (by kernel_rfl) (by simp) (by simp [Value.oneCell']) ?_)
    exact bodyPost_ret (results_row_tmp rfl _ _ (w.heap.size + 1) 30 _ _ rfl (R9.setRow _) Try.underlying30 rfl (by kernel_rfl)) rfl ⟨by rw [h220]; rfl, below_setRow hB9 (by omega) _⟩
  · have hz0 : ¬ (224 - (4 + O) = 0) := by omega
    clear hcp0
    go_upto_region 10 with fail
    clear hcp1
    go_wp2_with (refine wpList_load_row rfl 54 _ rfl g rfl 54 _ (0, 0) _ K8 Try.underlying54 rfl (by rw [S8.out]; kernel_rfl) ?_)
    refine (Q.out _).mono ?_
    rintro e w9 ⟨rfl, hb9⟩
    have R9 := R8.keep hb9 R8.lt
    have hB9 := hB8.trans (hb9.mono hB8.size)
    clear R8 hB8 hb9 K8 Q
    go_wp2_with (refine wpList_store_row rfl 30 _ _ rfl (w.heap.size + 1) _ rfl rfl 30 _ R9 (by kernel_rfl) (by simp) (by simp [Value.oneCell']) ?_)
    exact bodyPost_ret (results_row_tmp rfl _ _ (w.heap.size + 1) 30 _ _ rfl (R9.setRow _) Try.underlying30 rfl (by kernel_rfl)) rfl ⟨rfl, below_setRow hB9 (by omega) _⟩
end
end Go.Proofs.Ytkodnjefdophmaa
