/- Layer 6's statements: the walk of PageUndo. -/
import Derived.Test.YtjnnkbbgeckgkaaPgK
import Derived.Test.YtjnnkbbgeckgkaaPgN
import Derived.Test.YtjnnkbbgeckgkaaUint
namespace Go.Proofs.Ytjnnkbbgeckgkaa
open Go.RowKit

/-- What was there put back over what was put. -/
theorem putS_back {d s : ByteArray} {O : Nat} (h : O + s.size ≤ d.size) : putS (putS d O s) O (d.extract O (O + s.size)) = d := by
  have hd : d.data.toList.length = d.size := rfl
  have hs : s.data.toList.length = s.size := rfl
  have hl : ((d.extract O (O + s.size)).data.toList).length = s.size := by
    rw [size_bytes, ByteArray.size_extract]; omega
  apply str_ext
  rw [putS_data, putS_data]
  unfold splice
  rw [hl, List.take_left' (by simp; omega), ← List.append_assoc (List.take O d.data.toList) s.data.toList, List.drop_left' (by simp; omega), Lib.extract_data, hs, show O + s.size - O = s.size by omega]
  rw [show List.drop (O + s.size) d.data.toList = List.drop s.size (List.drop O d.data.toList) from by rw [List.drop_drop], List.take_append_drop, List.take_append_drop]
section
set_option maxRecDepth 100000
variable (a o x : Int) (X : Nat) (hX : X = modN x 1000000) (d s : ByteArray) (w : World)
include hX

set_option maxHeartbeats 32000000 in
theorem pageUndo_wide (hd : (500 : Int) < d.size) : Calls Try.prog 8 #[.agg #[.int .i64 a, .string d], .int .i64 o, .string s, .int .i64 x] w fun e w' => e = .returned (.bool true) ∧ Below w.heap.size w w' := by
  have AW := Lib.hid awake_any
  have hM : Hid (wrap64 ((IntKind.u64.wrap x).tmod 1000000) = (X : Int)) := by show _ = _; rw [hX]; exact modN_eq x 1000000 (by omega) (by omega)
  go_enter Try.func8, Try.ntmps8
  go_wp2_with fail
  rw [hM.out]
  have X0 := Blk.new w 23 #[.int .i64 a, .string d]
  have hB := (Below.refl w.heap.size w).alloc (Nat.le_refl _) (.cells #[.int .i64 a, .string d] 23)
  generalize (w.alloc (.cells #[.int .i64 a, .string d] 23)) = w1 at *
  refine (AW.out _).mono ?_
  rintro e w2 ⟨rfl, hb⟩
  replace X0 := X0.keep hb X0.lt
  replace hB := hB.trans (hb.mono hB.size)
  clear hb
  have c0 := X0.cellAt (i := 0) (by simp)
  have c1 := X0.cellAt (i := 1) (by simp)
  simp at c0 c1
  go_wp2_with fail
  refine (AW.out _).mono ?_
  rintro e w3 ⟨rfl, hb⟩
  replace hB := hB.trans (hb.mono hB.size)
  go_wp2
  go_ret
  exact ⟨rfl, hB⟩

set_option maxHeartbeats 32000000 in
theorem pageUndo_long (hd : (d.size : Int) ≤ 500) (hl : (100 : Int) < s.size) : Calls Try.prog 8 #[.agg #[.int .i64 a, .string d], .int .i64 o, .string s, .int .i64 x] w fun e w' => e = .returned (.bool true) ∧ Below w.heap.size w w' := by
  have AW := Lib.hid awake_any
  have hM : Hid (wrap64 ((IntKind.u64.wrap x).tmod 1000000) = (X : Int)) := by show _ = _; rw [hX]; exact modN_eq x 1000000 (by omega) (by omega)
  go_enter Try.func8, Try.ntmps8
  go_wp2_with fail
  rw [hM.out]
  have X0 := Blk.new w 23 #[.int .i64 a, .string d]
  have hB := (Below.refl w.heap.size w).alloc (Nat.le_refl _) (.cells #[.int .i64 a, .string d] 23)
  generalize (w.alloc (.cells #[.int .i64 a, .string d] 23)) = w1 at *
  refine (AW.out _).mono ?_
  rintro e w2 ⟨rfl, hb⟩
  replace X0 := X0.keep hb X0.lt
  replace hB := hB.trans (hb.mono hB.size)
  clear hb
  have c0 := X0.cellAt (i := 0) (by simp)
  have c1 := X0.cellAt (i := 1) (by simp)
  simp at c0 c1
  go_wp2_with fail
  refine (AW.out _).mono ?_
  rintro e w3 ⟨rfl, hb⟩
  replace hB := hB.trans (hb.mono hB.size)
  go_wp2
  go_ret
  exact ⟨rfl, hB⟩

set_option maxHeartbeats 32000000 in
theorem pageUndo_old (hd : (d.size : Int) ≤ 500) (hl : (s.size : Int) ≤ 100) (hx : (X : Int) ≤ a) : Calls Try.prog 8 #[.agg #[.int .i64 a, .string d], .int .i64 o, .string s, .int .i64 x] w fun e w' => e = .returned (.bool true) ∧ Below w.heap.size w w' := by
  have AW := Lib.hid awake_any
  have hM : Hid (wrap64 ((IntKind.u64.wrap x).tmod 1000000) = (X : Int)) := by show _ = _; rw [hX]; exact modN_eq x 1000000 (by omega) (by omega)
  go_enter Try.func8, Try.ntmps8
  go_wp2_with fail
  rw [hM.out]
  have X0 := Blk.new w 23 #[.int .i64 a, .string d]
  have hB := (Below.refl w.heap.size w).alloc (Nat.le_refl _) (.cells #[.int .i64 a, .string d] 23)
  generalize (w.alloc (.cells #[.int .i64 a, .string d] 23)) = w1 at *
  refine (AW.out _).mono ?_
  rintro e w2 ⟨rfl, hb⟩
  replace X0 := X0.keep hb X0.lt
  replace hB := hB.trans (hb.mono hB.size)
  clear hb
  have c0 := X0.cellAt (i := 0) (by simp)
  have c1 := X0.cellAt (i := 1) (by simp)
  simp at c0 c1
  go_wp2_with fail
  refine (AW.out _).mono ?_
  rintro e w3 ⟨rfl, hb⟩
  replace hB := hB.trans (hb.mono hB.size)
  go_wp2
  go_ret
  exact ⟨rfl, hB⟩

set_option maxHeartbeats 32000000 in
theorem pageUndo_err (hd : (d.size : Int) ≤ 500) (hl : (s.size : Int) ≤ 100) (hx : a < (X : Int)) (he : (getR a d o s.size).2 ≠ 0) : Calls Try.prog 8 #[.agg #[.int .i64 a, .string d], .int .i64 o, .string s, .int .i64 x] w fun e w' => e = .returned (.bool true) ∧ Below w.heap.size w w' := by
  have AW := Lib.hid awake_any
  have hM : Hid (wrap64 ((IntKind.u64.wrap x).tmod 1000000) = (X : Int)) := by show _ = _; rw [hX]; exact modN_eq x 1000000 (by omega) (by omega)
  have GP := Lib.hid (fun W => get_any a o s.size d W (sizeWf (by unfold maxLen; omega)))
  have e1 : ((getR a d o s.size).2 != 0) = true := by simp [he]
  generalize (getR a d o s.size).1 = G at *
  generalize (getR a d o s.size).2 = H at *
  clear he
  go_enter Try.func8, Try.ntmps8
  go_wp2_with fail
  rw [hM.out]
  have X0 := Blk.new w 23 #[.int .i64 a, .string d]
  have hB := (Below.refl w.heap.size w).alloc (Nat.le_refl _) (.cells #[.int .i64 a, .string d] 23)
  generalize (w.alloc (.cells #[.int .i64 a, .string d] 23)) = w1 at *
  refine (AW.out _).mono ?_
  rintro e w2 ⟨rfl, hb⟩
  replace X0 := X0.keep hb X0.lt
  replace hB := hB.trans (hb.mono hB.size)
  clear hb
  have c0 := X0.cellAt (i := 0) (by simp)
  have c1 := X0.cellAt (i := 1) (by simp)
  simp at c0 c1
  go_wp2_with fail
  refine (GP.out _).mono ?_
  rintro e w3 ⟨rfl, hb⟩
  replace hB := hB.trans (hb.mono hB.size)
  go_wp2
  go_ret
  exact ⟨rfl, hB⟩

set_option maxHeartbeats 32000000 in
theorem pageUndo_ok (hd : (d.size : Int) ≤ 500) (hl : (s.size : Int) ≤ 100) (hx : a < (X : Int)) (hX2 : (X : Int) < 1000000) (hp : PgOk a d) (O : Nat) (ho : o = O) (hO : O + s.size ≤ 220) : Calls Try.prog 8 #[.agg #[.int .i64 a, .string d], .int .i64 o, .string s, .int .i64 x] w fun e w' => e = .returned (.bool true) ∧ Below w.heap.size w w' := by
  have AW := Lib.hid awake_any
  have hM : Hid (wrap64 ((IntKind.u64.wrap x).tmod 1000000) = (X : Int)) := by show _ = _; rw [hX]; exact modN_eq x 1000000 (by omega) (by omega)
  have hds := hp.2
  have GP := Lib.hid (fun W => get_ok a d W O s.size hp hO)
  have hD := putS_size (d := d) (o := O) (s := s) (by omega)
  have hback := putS_back (d := d) (O := O) (s := s) (by omega)
  have hzo : (d.extract O (O + s.size)).size = s.size := by rw [ByteArray.size_extract]; omega
  have k1 : applyR a d X { Rc.nil with kind := 1, off := O, before := d.extract O (O + s.size), after := s } = ((X : Int), putS d O s) := by
    have e : putR a d O s X = ((X : Int), putS d O s, 0) := by
      unfold putR
      rw [if_pos hp, if_pos ⟨by omega, by omega⟩, if_pos ⟨by omega, by omega, by omega⟩]
      rfl
    unfold applyR
    simp only
    rw [e, if_pos ⟨.inl rfl, hx, rfl⟩]
  have k2 : applyR X (putS d O s) ((X : Int) + 1) { Rc.nil with kind := 2, off := O, after := d.extract O (O + s.size) } = ((X : Int) + 1, d) := by
    have e : putR X (putS d O s) O (d.extract O (O + s.size)) ((X : Int) + 1) = ((X : Int) + 1, d, 0) := by
      unfold putR
      rw [if_pos ⟨⟨by omega, by omega⟩, by omega⟩, if_pos ⟨by omega, by omega⟩, if_pos ⟨by omega, by omega, by omega⟩, show ((O : Int)).toNat = O from rfl, hback]
    unfold applyR
    simp only
    rw [e, if_pos ⟨.inr rfl, by omega, rfl⟩]
  have A1 := Lib.hid (fun W => apply_any (w := W) (r := { Rc.nil with kind := 1, off := O, before := d.extract O (O + s.size), after := s }) a X d ⟨_, _, rfl, Lists.nil W _ rfl rfl⟩ (by omega) (by unfold Sized' maxLen; show s.size ≤ _; omega))
  have A2 := Lib.hid (fun W => apply_any (w := W) (r := { Rc.nil with kind := 2, off := O, after := d.extract O (O + s.size) }) X ((X : Int) + 1) (putS d O s) ⟨_, _, rfl, Lists.nil W _ rfl rfl⟩ (by omega) (by unfold Sized' maxLen; show (d.extract O (O + s.size)).size ≤ _; omega))
  rw [k1] at A1
  rw [k2] at A2
  have hw : IntKind.i64.wrap ((X : Int) + 1) = (X : Int) + 1 := by rw [IntKind.wrap_i64]; omega
  clear k1 k2 hback hzo hD hds hp hO hX2 hX
  subst ho
  generalize d.extract O (O + s.size) = old at *
  generalize putS d O s = D at *
  go_enter Try.func8, Try.ntmps8
  go_wp2_with fail
  rw [hM.out]
  have X0 := Blk.new w 23 #[.int .i64 a, .string d]
  have hB := (Below.refl w.heap.size w).alloc (Nat.le_refl _) (.cells #[.int .i64 a, .string d] 23)
  generalize (w.alloc (.cells #[.int .i64 a, .string d] 23)) = w1 at *
  refine (AW.out _).mono ?_
  rintro e w2 ⟨rfl, hb⟩
  replace X0 := X0.keep hb X0.lt
  replace hB := hB.trans (hb.mono hB.size)
  clear hb
  have c0 := X0.cellAt (i := 0) (by simp)
  have c1 := X0.cellAt (i := 1) (by simp)
  simp at c0 c1
  go_wp2_with fail
  refine (GP.out _).mono ?_
  rintro e w3 ⟨rfl, hb⟩
  replace X0 := X0.keep hb X0.lt
  replace hB := hB.trans (hb.mono hB.size)
  clear hb c0 c1 GP AW
  have c0 := X0.cellAt (i := 0) (by simp)
  have c1 := X0.cellAt (i := 1) (by simp)
  simp at c0 c1
  go_wp2_with fail
  refine (A1.out _).mono ?_
  rintro e w4 ⟨rfl, hb⟩
  replace X0 := X0.keep hb X0.lt
  replace hB := hB.trans (hb.mono hB.size)
  clear hb c0 c1 A1
  have N0 := Blk.new w4 23 #[.int .i64 0, .string ⟨#[]⟩]
  have Q0 := N0.setRow #[.int .i64 X, .string D]
  replace X0 := (X0.alloc (.cells #[.int .i64 0, .string ⟨#[]⟩] 23)).farRow (k := w4.heap.size) (by have := X0.lt; omega) #[.int .i64 X, .string D]
  replace hB := below_setRow (hB.alloc hB.size (.cells #[.int .i64 0, .string ⟨#[]⟩] 23)) (g := w4.heap.size) hB.size #[.int .i64 X, .string D]
  go_upto_region 8 with (refine wpList_store_row rfl 23 _ _ rfl w4.heap.size _ rfl rfl 23 _ N0 (by kernel_rfl) (by simp) (by simp [Value.oneCell']) ?_)
  clear N0
  generalize (w4.alloc _).setRow _ _ = w5 at *
  generalize w4.heap.size = gq at *
  have c0 := Q0.cellAt (i := 0) (by simp)
  have c1 := Q0.cellAt (i := 1) (by simp)
  simp at c0 c1
  go_wp2_with fail
  refine (A2.out _).mono ?_
  rintro e w6 ⟨rfl, hb⟩
  replace X0 := X0.keep hb X0.lt
  replace Q0 := Q0.keep hb Q0.lt
  replace hB := hB.trans (hb.mono hB.size)
  clear hb c0 c1 A2
  have N0 := Blk.new w6 23 #[.int .i64 0, .string ⟨#[]⟩]
  have R0 := N0.setRow #[.int .i64 ((X : Int) + 1), .string d]
  replace X0 := (X0.alloc (.cells #[.int .i64 0, .string ⟨#[]⟩] 23)).farRow (k := w6.heap.size) (by have := X0.lt; omega) #[.int .i64 ((X : Int) + 1), .string d]
  replace Q0 := (Q0.alloc (.cells #[.int .i64 0, .string ⟨#[]⟩] 23)).farRow (k := w6.heap.size) (by have := Q0.lt; omega) #[.int .i64 ((X : Int) + 1), .string d]
  replace hB := below_setRow (hB.alloc hB.size (.cells #[.int .i64 0, .string ⟨#[]⟩] 23)) (g := w6.heap.size) hB.size #[.int .i64 ((X : Int) + 1), .string d]
  go_upto_region 9 with (refine wpList_store_row rfl 23 _ _ rfl w6.heap.size _ rfl rfl 23 _ N0 (by kernel_rfl) (by simp) (by simp [Value.oneCell']) ?_)
  clear N0
  generalize (w6.alloc _).setRow _ _ = w7 at *
  generalize w6.heap.size = gr at *
  have c0 := X0.cellAt (i := 0) (by simp)
  have c1 := X0.cellAt (i := 1) (by simp)
  simp at c0 c1
  have q0 := Q0.cellAt (i := 0) (by simp)
  have r0 := R0.cellAt (i := 0) (by simp)
  have r1 := R0.cellAt (i := 1) (by simp)
  simp at q0 r0 r1
  go_wp2
  go_ret
  exact ⟨rfl, hB⟩
end
theorem walkPageUndo (a : Int) (d : ByteArray) (o : Int) (s : ByteArray) (x : Int) (w : World) (_ : (Lit.int .i64 a).wf = true) (_ : d.size ≤ maxLen) (_ : (Lit.int .i64 o).wf = true) (_ : s.size ≤ maxLen) (_ : (Lit.int .i64 x).wf = true) :
    Calls Try.prog 8 #[.agg #[.int .i64 a, .string d], .int .i64 o, .string s, .int .i64 x] w fun e w' => e = .returned (.bool true) ∧ Below w.heap.size w w' := by
  by_cases hd : (500 : Int) < d.size
  · exact pageUndo_wide a o x _ rfl d s w hd
  · by_cases hl : (100 : Int) < s.size
    · exact pageUndo_long a o x _ rfl d s w (by omega) hl
    · by_cases hx : ((modN x 1000000 : Nat) : Int) ≤ a
      · exact pageUndo_old a o x _ rfl d s w (by omega) (by omega) hx
      · by_cases he : (getR a d o s.size).2 = 0
        · have hX2 := modN_lt x 1000000 (by omega)
          by_cases hp : PgOk a d
          · by_cases hi : InPage o s.size
            · obtain ⟨O, ho⟩ := Int.eq_ofNat_of_zero_le hi.1
              have := hi.2.2
              exact pageUndo_ok a o x _ rfl d s w (by omega) (by omega) (by omega) hX2 hp O ho (by omega)
            · unfold getR at he
              rw [if_pos hp, if_neg hi] at he
              cases he
          · unfold getR at he
            rw [if_neg hp] at he
            cases he
        · exact pageUndo_err a o x _ rfl d s w (by omega) (by omega) (by omega) he
end Go.Proofs.Ytjnnkbbgeckgkaa
