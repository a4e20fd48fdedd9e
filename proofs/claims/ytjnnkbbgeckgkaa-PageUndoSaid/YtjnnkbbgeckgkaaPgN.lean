/- Layer 6's statements: the walk of PageParts. -/
import Derived.Test.YtjnnkbbgeckgkaaPgK
import Derived.Test.YtjnnkbbgeckgkaaPgF
namespace Go.Proofs.Ytjnnkbbgeckgkaa
open Go.RowKit

/-- Where Put answers an error, it answers no page. -/
theorem putR_err {a o x : Int} {d s : ByteArray} (h : (putR a d o s x).2.2 ≠ 0) : (putR a d o s x).1 = 0 ∧ (putR a d o s x).2.1 = ⟨#[]⟩ := by
  unfold putR at *
  by_cases h1 : PgOk a d
  · by_cases h2 : Num x
    · by_cases h3 : InPage o s.size
      · rw [if_pos h1, if_pos h2, if_pos h3] at h
        exact absurd rfl h
      · rw [if_pos h1, if_pos h2, if_neg h3]
        exact ⟨rfl, rfl⟩
    · rw [if_pos h1, if_neg h2]
      exact ⟨rfl, rfl⟩
  · rw [if_neg h1]
    exact ⟨rfl, rfl⟩
theorem putR_ok {a o x : Int} {d s : ByteArray} (h : (putR a d o s x).2.2 = 0) : PgOk a d ∧ Num x ∧ InPage o s.size ∧ putR a d o s x = (x, putS d o.toNat s, 0) := by
  unfold putR at *
  by_cases h1 : PgOk a d
  · by_cases h2 : Num x
    · by_cases h3 : InPage o s.size
      · exact ⟨h1, h2, h3, by rw [if_pos h1, if_pos h2, if_pos h3]⟩
      · rw [if_pos h1, if_pos h2, if_neg h3] at h
        cases h
    · rw [if_pos h1, if_neg h2] at h
      cases h
  · rw [if_neg h1] at h
    cases h
/-- The pieces of a text with another one in it. -/
theorem putS_head {d s : ByteArray} {O : Nat} (h : O + s.size ≤ d.size) : (putS d O s).extract 0 O = d.extract 0 O := by
  have hd : d.data.toList.length = d.size := rfl
  apply str_ext
  rw [Lib.extract_data, Lib.extract_data, putS_data]
  unfold splice
  rw [List.drop_zero, List.drop_zero, Nat.sub_zero]
  exact List.take_left' (by simp; omega)
theorem putS_mid {d s : ByteArray} {O : Nat} (h : O + s.size ≤ d.size) : (putS d O s).extract O (O + s.size) = s := by
  have hd : d.data.toList.length = d.size := rfl
  have hs : s.data.toList.length = s.size := rfl
  apply str_ext
  rw [Lib.extract_data, putS_data]
  unfold splice
  rw [List.drop_left' (by simp; omega), List.take_left' (by rw [hs]; omega)]
theorem putS_tail {d s : ByteArray} {O : Nat} (h : O + s.size ≤ d.size) : (putS d O s).extract (O + s.size) (putS d O s).size = d.extract (O + s.size) d.size := by
  have hd : d.data.toList.length = d.size := rfl
  have hs : s.data.toList.length = s.size := rfl
  apply str_ext
  rw [putS_size h, Lib.extract_data, Lib.extract_data, putS_data]
  unfold splice
  rw [← List.append_assoc, List.drop_left' (by simp; omega), hs]
section
set_option maxRecDepth 100000
variable (a o x : Int) (d s : ByteArray) (w : World)

set_option maxHeartbeats 32000000 in
theorem pageParts_long (hl : (500 : Int) < s.size) : Calls Try.prog 7 #[.agg #[.int .i64 a, .string d], .int .i64 o, .string s, .int .i64 x] w fun e w' => e = .returned (.bool true) ∧ Below w.heap.size w w' := by
  have AW := Lib.hid awake_any
  go_enter Try.func7, Try.ntmps7
  go_wp2_with fail
  have X0 := Blk.new w 23 #[.int .i64 a, .string d]
  have hB := (Below.refl w.heap.size w).alloc (Nat.le_refl _) (.cells #[.int .i64 a, .string d] 23)
  generalize (w.alloc (.cells #[.int .i64 a, .string d] 23)) = w1 at *
  refine (AW.out _).mono ?_
  rintro e w2 ⟨rfl, hb⟩
  replace X0 := X0.keep hb X0.lt
  replace hB := hB.trans (hb.mono hB.size)
  clear hb
  have c1 := X0.cellAt (i := 1) (by simp)
  simp at c1
  go_wp2_with fail
  refine (AW.out _).mono ?_
  rintro e w3 ⟨rfl, hb⟩
  replace hB := hB.trans (hb.mono hB.size)
  go_wp2
  go_ret
  exact ⟨rfl, hB⟩

set_option maxHeartbeats 32000000 in
theorem pageParts_wide (hl : (s.size : Int) ≤ 500) (hd : (500 : Int) < d.size) : Calls Try.prog 7 #[.agg #[.int .i64 a, .string d], .int .i64 o, .string s, .int .i64 x] w fun e w' => e = .returned (.bool true) ∧ Below w.heap.size w w' := by
  have AW := Lib.hid awake_any
  go_enter Try.func7, Try.ntmps7
  go_wp2_with fail
  have X0 := Blk.new w 23 #[.int .i64 a, .string d]
  have hB := (Below.refl w.heap.size w).alloc (Nat.le_refl _) (.cells #[.int .i64 a, .string d] 23)
  generalize (w.alloc (.cells #[.int .i64 a, .string d] 23)) = w1 at *
  refine (AW.out _).mono ?_
  rintro e w2 ⟨rfl, hb⟩
  replace X0 := X0.keep hb X0.lt
  replace hB := hB.trans (hb.mono hB.size)
  clear hb
  have c1 := X0.cellAt (i := 1) (by simp)
  simp at c1
  go_wp2_with fail
  refine (AW.out _).mono ?_
  rintro e w3 ⟨rfl, hb⟩
  replace hB := hB.trans (hb.mono hB.size)
  go_wp2
  go_ret
  exact ⟨rfl, hB⟩

set_option maxHeartbeats 32000000 in
theorem pageParts_err (hl : (s.size : Int) ≤ 500) (hd : (d.size : Int) ≤ 500) (he : (putR a d o s x).2.2 ≠ 0) : Calls Try.prog 7 #[.agg #[.int .i64 a, .string d], .int .i64 o, .string s, .int .i64 x] w fun e w' => e = .returned (.bool true) ∧ Below w.heap.size w w' := by
  have AW := Lib.hid awake_any
  have PP := Lib.hid (fun W => put_any a o x d s W (by unfold maxLen; omega))
  rw [(putR_err he).1, (putR_err he).2] at PP
  have e1 : ((putR a d o s x).2.2 != 0) = true := by simp [he]
  generalize (putR a d o s x).2.2 = E at *
  have t1 : decide ((500 : Int) < s.size) = false := by simp; omega
  have t2 : decide ((500 : Int) < d.size) = false := by simp; omega
  clear hl hd he
  go_enter Try.func7, Try.ntmps7
  go_wp2_with fail
  have X0 := Blk.new w 23 #[.int .i64 a, .string d]
  have hB := (Below.refl w.heap.size w).alloc (Nat.le_refl _) (.cells #[.int .i64 a, .string d] 23)
  generalize (w.alloc (.cells #[.int .i64 a, .string d] 23)) = w1 at *
  refine (AW.out _).mono ?_
  rintro e w2 ⟨rfl, hb⟩
  replace X0 := X0.keep hb X0.lt
  replace hB := hB.trans (hb.mono hB.size)
  clear hb
  clear AW
  have c0 := X0.cellAt (i := 0) (by simp)
  have c1 := X0.cellAt (i := 1) (by simp)
  simp at c0 c1
  go_wp2_with fail
  refine (PP.out _).mono ?_
  rintro e w3 ⟨rfl, hb⟩
  replace X0 := X0.keep hb X0.lt
  replace hB := hB.trans (hb.mono hB.size)
  clear hb c0 c1 PP t1 t2
  have N0 := Blk.new w3 23 #[.int .i64 0, .string ⟨#[]⟩]
  have Q0 := N0.setRow #[.int .i64 0, .string ⟨#[]⟩]
  replace X0 := (X0.alloc (.cells #[.int .i64 0, .string ⟨#[]⟩] 23)).farRow (k := w3.heap.size) (by have := X0.lt; omega) #[.int .i64 0, .string ⟨#[]⟩]
  replace hB := below_setRow (hB.alloc hB.size (.cells #[.int .i64 0, .string ⟨#[]⟩] 23)) (g := w3.heap.size) hB.size #[.int .i64 0, .string ⟨#[]⟩]
  go_upto_region 4 with (refine wpList_store_row rfl 23 _ _ rfl w3.heap.size _ rfl rfl 23 _ N0 (by kernel_rfl) (by simp) (by simp [Value.oneCell']) ?_)
  clear N0
  generalize (w3.alloc _).setRow _ _ = w4 at *
  generalize w3.heap.size = gq at *
  have c0 := Q0.cellAt (i := 0) (by simp)
  have c1 := Q0.cellAt (i := 1) (by simp)
  simp at c0 c1
  go_wp2
  go_ret
  exact ⟨rfl, hB⟩

set_option maxHeartbeats 32000000 in
theorem pageParts_ok (hl : (s.size : Int) ≤ 500) (hd : (d.size : Int) ≤ 500) (he : (putR a d o s x).2.2 = 0) : Calls Try.prog 7 #[.agg #[.int .i64 a, .string d], .int .i64 o, .string s, .int .i64 x] w fun e w' => e = .returned (.bool true) ∧ Below w.heap.size w w' := by
  have AW := Lib.hid awake_any
  obtain ⟨hp, hx, hi, hr⟩ := putR_ok he
  have PP := Lib.hid (fun W => put_any a o x d s W (by unfold maxLen; omega))
  rw [hr] at PP
  obtain ⟨h0, _, h2⟩ := hi
  obtain ⟨O, rfl⟩ := Int.eq_ofNat_of_zero_le h0
  replace PP : Hid (∀ W, Calls Try.prog 10 #[.agg #[.int .i64 a, .string d], .int .i64 (O : Int), .string s, .int .i64 x] W fun e w' => e = .returned (.tuple #[.agg #[.int .i64 x, .string (putS d O s)], .int .i64 0]) ∧ Below W.heap.size W w') := PP
  have hds : d.size = 220 := hp.2
  have hDs : (putS d O s).size = 220 := by rw [putS_size (by omega), hds]
  have GP := Lib.hid (fun W => get_ok x (putS d O s) W O s.size ⟨hx, hDs⟩ (by omega))
  rw [putS_mid (by omega)] at GP
  have S1 := Lib.hid (fun W => run_slice_string_h (P := Try.prog) (w := W) (t := 9) (putS d O s) Try.underlying9 .i64 O (by omega) (by omega))
  have S2 := Lib.hid (fun W => run_slice_string_h (P := Try.prog) (w := W) (t := 9) d Try.underlying9 .i64 O (by omega) (by omega))
  have S3 := Lib.hid (slice_from (P := Try.prog) 9 Try.underlying9 (putS d O s) (O + s.size) .i64 ((O : Int) + s.size) (by omega) (by omega))
  have S4 := Lib.hid (slice_from (P := Try.prog) 9 Try.underlying9 d (O + s.size) .i64 ((O : Int) + s.size) (by omega) (by omega))
  have HW : Hid (IntKind.i64.wrap ((O : Int) + s.size) = (O : Int) + s.size) := by show _ = _; rw [IntKind.wrap_i64]; omega
  rw [show ((O : Int)).toNat = O from rfl] at S1 S2
  rw [putS_head (by omega)] at S1
  rw [putS_tail (by omega)] at S3
  generalize d.extract 0 O = dh at *
  generalize d.extract (O + s.size) d.size = dt at *
  have t1 : decide ((500 : Int) < s.size) = false := by simp; omega
  have t2 : decide ((500 : Int) < d.size) = false := by simp; omega
  clear hl hd he hp hx hr h0 h2 hds hDs
  generalize putS d O s = D at *
  go_enter Try.func7, Try.ntmps7
  go_wp2_with fail
  have X0 := Blk.new w 23 #[.int .i64 a, .string d]
  have hB := (Below.refl w.heap.size w).alloc (Nat.le_refl _) (.cells #[.int .i64 a, .string d] 23)
  generalize (w.alloc (.cells #[.int .i64 a, .string d] 23)) = w1 at *
  refine (AW.out _).mono ?_
  rintro e w2 ⟨rfl, hb⟩
  replace X0 := X0.keep hb X0.lt
  replace hB := hB.trans (hb.mono hB.size)
  clear hb
  clear AW
  have c0 := X0.cellAt (i := 0) (by simp)
  have c1 := X0.cellAt (i := 1) (by simp)
  simp at c0 c1
  go_wp2_with fail
  refine (PP.out _).mono ?_
  rintro e w3 ⟨rfl, hb⟩
  replace X0 := X0.keep hb X0.lt
  replace hB := hB.trans (hb.mono hB.size)
  clear hb c0 c1 PP t1 t2
  have N0 := Blk.new w3 23 #[.int .i64 0, .string ⟨#[]⟩]
  have Q0 := N0.setRow #[.int .i64 x, .string D]
  replace X0 := (X0.alloc (.cells #[.int .i64 0, .string ⟨#[]⟩] 23)).farRow (k := w3.heap.size) (by have := X0.lt; omega) #[.int .i64 x, .string D]
  replace hB := below_setRow (hB.alloc hB.size (.cells #[.int .i64 0, .string ⟨#[]⟩] 23)) (g := w3.heap.size) hB.size #[.int .i64 x, .string D]
  go_upto_region 4 with (refine wpList_store_row rfl 23 _ _ rfl w3.heap.size _ rfl rfl 23 _ N0 (by kernel_rfl) (by simp) (by simp [Value.oneCell']) ?_)
  clear N0
  generalize (w3.alloc _).setRow _ _ = w4 at *
  generalize w3.heap.size = gq at *
  have c0 := Q0.cellAt (i := 0) (by simp)
  have c1 := Q0.cellAt (i := 1) (by simp)
  simp at c0 c1
  go_wp2_with fail
  refine (GP.out _).mono ?_
  rintro e w5 ⟨rfl, hb⟩
  replace X0 := X0.keep hb X0.lt
  replace Q0 := Q0.keep hb Q0.lt
  replace hB := hB.trans (hb.mono hB.size)
  clear hb c0 c1 GP
  go_upto_region 7 with fail
  generalize hgx : w.heap.size = gx at *
  replace hgx := Lib.hid hgx
  have HB := Lib.hid hB
  have XB : Hid (∀ W, Below w5.drew.heap.size w5.drew W → Blk W gx 23 #[.int .i64 a, .string d] ∧ Blk W gq 23 #[.int .i64 x, .string D]) := fun W h => ⟨X0.drew.keep h X0.lt, Q0.drew.keep h Q0.lt⟩
  clear X0 Q0 hB
  refine' wp_region_conf 41 (.is _ :: .is _ :: .is _ :: .is _ :: .is _ :: .is _ :: .is _ :: .is _ :: .is _ :: .is _ :: .is _ :: .is _ :: .is _ :: .is _ :: .is _ :: .is _ :: .is _ :: .is _ :: .is _ :: .is _ :: .is _ :: .is _ :: .is _ :: .is _ :: .is _ :: .is _ :: .is _ :: .is _ :: .is _ :: .is _ :: .is _ :: .is _ :: .is _ :: .is _ :: .is _ :: .is _ :: .is _ :: .is _ :: .is _ :: .is _ :: .is _ :: []) (by kernel_rfl) (by kernel_rfl) (by kernel_rfl) (by kernel_rfl) rfl ?main
  case main =>
    apply obs_step
    · rfl
    · intro w9 hE9 hk
      clear hk hE9
      go_wp2
      refine post_eq ?_ (Below.refl _ _)
      simp only [Act.put, List.setIfInBounds_toArray, List.set_cons_zero, List.set_cons_succ]
      try rfl
    · simp only [Act.put, List.setIfInBounds_toArray, List.set_cons_zero, List.set_cons_succ]
      rfl
    apply obs_step
    · rfl
    · intro w9 hE9 hk
      clear hk hE9
      go_wp2
      refine post_eq ?_ (Below.refl _ _)
      simp only [Act.put, List.setIfInBounds_toArray, List.set_cons_zero, List.set_cons_succ]
      try rfl
    · simp only [Act.put, List.setIfInBounds_toArray, List.set_cons_zero, List.set_cons_succ]
      rfl
    apply obs_step
    · rfl
    · intro w9 hE9 hk
      clear hk hE9
      go_wp2
      refine post_eq ?_ (Below.refl _ _)
      simp only [Act.put, List.setIfInBounds_toArray, List.set_cons_zero, List.set_cons_succ]
      try rfl
    · simp only [Act.put, List.setIfInBounds_toArray, List.set_cons_zero, List.set_cons_succ]
      rfl
    apply obs_step
    · rfl
    · intro w9 hE9 hk
      clear hk hE9
      go_wp2
      refine post_eq ?_ (Below.refl _ _)
      simp only [Act.put, List.setIfInBounds_toArray, List.set_cons_zero, List.set_cons_succ]
      try rfl
    · simp only [Act.put, List.setIfInBounds_toArray, List.set_cons_zero, List.set_cons_succ]
      rfl
    apply obs_step
    · rfl
    · intro w9 hE9 hk
      clear hk hE9
      go_wp2
      refine post_eq ?_ (Below.refl _ _)
      simp only [Act.put, List.setIfInBounds_toArray, List.set_cons_zero, List.set_cons_succ]
      try rfl
    · simp only [Act.put, List.setIfInBounds_toArray, List.set_cons_zero, List.set_cons_succ]
      rfl
    apply obs_step
    · rfl
    · intro w9 hE9 hk
      clear hk hE9
      go_wp2
      refine post_eq ?_ (Below.refl _ _)
      simp only [Act.put, List.setIfInBounds_toArray, List.set_cons_zero, List.set_cons_succ]
      try rfl
    · simp only [Act.put, List.setIfInBounds_toArray, List.set_cons_zero, List.set_cons_succ]
      rfl
    apply obs_step
    · rfl
    · intro w9 hE9 hk
      clear hk hE9
      go_wp2
      refine post_eq ?_ (Below.refl _ _)
      simp only [Act.put, List.setIfInBounds_toArray, List.set_cons_zero, List.set_cons_succ]
      try rfl
    · simp only [Act.put, List.setIfInBounds_toArray, List.set_cons_zero, List.set_cons_succ]
      rfl
    apply obs_step
    · rfl
    · intro w9 hE9 hk
      clear hk hE9
      go_wp2
      refine post_eq ?_ (Below.refl _ _)
      simp only [Act.put, List.setIfInBounds_toArray, List.set_cons_zero, List.set_cons_succ]
      try rfl
    · simp only [Act.put, List.setIfInBounds_toArray, List.set_cons_zero, List.set_cons_succ]
      rfl
    apply obs_step
    · rfl
    · intro w9 hE9 hk
      clear hk hE9
      go_wp2
      refine post_eq ?_ (Below.refl _ _)
      simp only [Act.put, List.setIfInBounds_toArray, List.set_cons_zero, List.set_cons_succ]
      try rfl
    · simp only [Act.put, List.setIfInBounds_toArray, List.set_cons_zero, List.set_cons_succ]
      rfl
    apply obs_step
    · rfl
    · intro w9 hE9 hk
      obtain ⟨X9, Q9⟩ := XB.out w9 hE9
      clear hk hE9
      have c0 := Q9.cellAt (i := 1) (by simp)
      simp at c0
      go_wp2
      refine post_eq ?_ (Below.refl _ _)
      simp only [Act.put, List.setIfInBounds_toArray, List.set_cons_zero, List.set_cons_succ]
      try rfl
    · simp only [Act.put, List.setIfInBounds_toArray, List.set_cons_zero, List.set_cons_succ]
      rfl
    apply obs_step
    · rfl
    · intro w9 hE9 hk
      clear hk hE9
      go_wp2
      refine post_eq ?_ (Below.refl _ _)
      simp only [Act.put, List.setIfInBounds_toArray, List.set_cons_zero, List.set_cons_succ]
      try rfl
    · simp only [Act.put, List.setIfInBounds_toArray, List.set_cons_zero, List.set_cons_succ]
      rfl
    apply obs_step
    · rfl
    · intro w9 hE9 hk
      clear hk hE9
      have f1 := S1.out
      go_wp2
      refine post_eq ?_ (Below.refl _ _)
      simp only [Act.put, List.setIfInBounds_toArray, List.set_cons_zero, List.set_cons_succ]
      try rfl
    · simp only [Act.put, List.setIfInBounds_toArray, List.set_cons_zero, List.set_cons_succ]
      rfl
    apply obs_step
    · rfl
    · intro w9 hE9 hk
      clear hk hE9
      go_wp2
      refine post_eq ?_ (Below.refl _ _)
      simp only [Act.put, List.setIfInBounds_toArray, List.set_cons_zero, List.set_cons_succ]
      try rfl
    · simp only [Act.put, List.setIfInBounds_toArray, List.set_cons_zero, List.set_cons_succ]
      rfl
    apply obs_step
    · rfl
    · intro w9 hE9 hk
      obtain ⟨X9, Q9⟩ := XB.out w9 hE9
      clear hk hE9
      have c0 := X9.cellAt (i := 1) (by simp)
      simp at c0
      go_wp2
      refine post_eq ?_ (Below.refl _ _)
      simp only [Act.put, List.setIfInBounds_toArray, List.set_cons_zero, List.set_cons_succ]
      try rfl
    · simp only [Act.put, List.setIfInBounds_toArray, List.set_cons_zero, List.set_cons_succ]
      rfl
    apply obs_step
    · rfl
    · intro w9 hE9 hk
      clear hk hE9
      go_wp2
      refine post_eq ?_ (Below.refl _ _)
      simp only [Act.put, List.setIfInBounds_toArray, List.set_cons_zero, List.set_cons_succ]
      try rfl
    · simp only [Act.put, List.setIfInBounds_toArray, List.set_cons_zero, List.set_cons_succ]
      rfl
    apply obs_step
    · rfl
    · intro w9 hE9 hk
      clear hk hE9
      have f1 := S2.out
      go_wp2
      refine post_eq ?_ (Below.refl _ _)
      simp only [Act.put, List.setIfInBounds_toArray, List.set_cons_zero, List.set_cons_succ]
      try rfl
    · simp only [Act.put, List.setIfInBounds_toArray, List.set_cons_zero, List.set_cons_succ]
      rfl
    apply obs_step
    · rfl
    · intro w9 hE9 hk
      clear hk hE9
      go_wp2
      refine post_eq ?_ (Below.refl _ _)
      simp only [Act.put, List.setIfInBounds_toArray, List.set_cons_zero, List.set_cons_succ]
      try rfl
    · simp only [Act.put, List.setIfInBounds_toArray, List.set_cons_zero, List.set_cons_succ]
      rfl
    apply obs_step
    · rfl
    · intro w9 hE9 hk
      clear hk hE9
      go_wp2
      refine post_eq ?_ (Below.refl _ _)
      simp only [Act.put, List.setIfInBounds_toArray, List.set_cons_zero, List.set_cons_succ]
      try rfl
    · simp only [Act.put, List.setIfInBounds_toArray, List.set_cons_zero, List.set_cons_succ]
      rfl
    apply obs_step
    · rfl
    · intro w9 hE9 hk
      clear hk hE9
      go_wp2
      refine post_eq ?_ (Below.refl _ _)
      simp only [Act.put, List.setIfInBounds_toArray, List.set_cons_zero, List.set_cons_succ]
      try rfl
    · simp only [Act.put, List.setIfInBounds_toArray, List.set_cons_zero, List.set_cons_succ]
      rfl
    apply obs_step
    · rfl
    · intro w9 hE9 hk
      clear hk hE9
      go_wp2
      refine post_eq ?_ (Below.refl _ _)
      simp only [Act.put, List.setIfInBounds_toArray, List.set_cons_zero, List.set_cons_succ]
      try rfl
    · simp only [Act.put, List.setIfInBounds_toArray, List.set_cons_zero, List.set_cons_succ]
      rfl
    apply obs_step
    · rfl
    · intro w9 hE9 hk
      obtain ⟨X9, Q9⟩ := XB.out w9 hE9
      clear hk hE9
      have c0 := Q9.cellAt (i := 1) (by simp)
      simp at c0
      go_wp2
      refine post_eq ?_ (Below.refl _ _)
      simp only [Act.put, List.setIfInBounds_toArray, List.set_cons_zero, List.set_cons_succ]
      try rfl
    · simp only [Act.put, List.setIfInBounds_toArray, List.set_cons_zero, List.set_cons_succ]
      rfl
    apply obs_step
    · rfl
    · intro w9 hE9 hk
      clear hk hE9
      go_wp2
      refine post_eq ?_ (Below.refl _ _)
      simp only [Act.put, List.setIfInBounds_toArray, List.set_cons_zero, List.set_cons_succ]
      try rfl
    · simp only [Act.put, List.setIfInBounds_toArray, List.set_cons_zero, List.set_cons_succ]
      rfl
    apply obs_step
    · rfl
    · intro w9 hE9 hk
      clear hk hE9
      go_wp2
      refine post_eq ?_ (Below.refl _ _)
      simp only [Act.put, List.setIfInBounds_toArray, List.set_cons_zero, List.set_cons_succ]
      try rfl
    · simp only [Act.put, List.setIfInBounds_toArray, List.set_cons_zero, List.set_cons_succ]
      rfl
    apply obs_step
    · rfl
    · intro w9 hE9 hk
      clear hk hE9
      go_wp2
      refine post_eq ?_ (Below.refl _ _)
      simp only [Act.put, List.setIfInBounds_toArray, List.set_cons_zero, List.set_cons_succ]
      try rfl
    · simp only [Act.put, List.setIfInBounds_toArray, List.set_cons_zero, List.set_cons_succ]
      rfl
    apply obs_step
    · rfl
    · intro w9 hE9 hk
      clear hk hE9
      have f1 := HW.out
      go_wp2
      refine post_eq ?_ (Below.refl _ _)
      simp only [Act.put, List.setIfInBounds_toArray, List.set_cons_zero, List.set_cons_succ]
      try rfl
    · simp only [Act.put, List.setIfInBounds_toArray, List.set_cons_zero, List.set_cons_succ]
      rfl
    apply obs_step
    · rfl
    · intro w9 hE9 hk
      clear hk hE9
      have f1 := S3.out
      go_wp2
      refine post_eq ?_ (Below.refl _ _)
      simp only [Act.put, List.setIfInBounds_toArray, List.set_cons_zero, List.set_cons_succ]
      try rfl
    · simp only [Act.put, List.setIfInBounds_toArray, List.set_cons_zero, List.set_cons_succ]
      rfl
    apply obs_step
    · rfl
    · intro w9 hE9 hk
      clear hk hE9
      go_wp2
      refine post_eq ?_ (Below.refl _ _)
      simp only [Act.put, List.setIfInBounds_toArray, List.set_cons_zero, List.set_cons_succ]
      try rfl
    · simp only [Act.put, List.setIfInBounds_toArray, List.set_cons_zero, List.set_cons_succ]
      rfl
    apply obs_step
    · rfl
    · intro w9 hE9 hk
      obtain ⟨X9, Q9⟩ := XB.out w9 hE9
      clear hk hE9
      have c0 := X9.cellAt (i := 1) (by simp)
      simp at c0
      go_wp2
      refine post_eq ?_ (Below.refl _ _)
      simp only [Act.put, List.setIfInBounds_toArray, List.set_cons_zero, List.set_cons_succ]
      try rfl
    · simp only [Act.put, List.setIfInBounds_toArray, List.set_cons_zero, List.set_cons_succ]
      rfl
    apply obs_step
    · rfl
    · intro w9 hE9 hk
      clear hk hE9
      go_wp2
      refine post_eq ?_ (Below.refl _ _)
      simp only [Act.put, List.setIfInBounds_toArray, List.set_cons_zero, List.set_cons_succ]
      try rfl
    · simp only [Act.put, List.setIfInBounds_toArray, List.set_cons_zero, List.set_cons_succ]
      rfl
    apply obs_step
    · rfl
    · intro w9 hE9 hk
      clear hk hE9
      go_wp2
      refine post_eq ?_ (Below.refl _ _)
      simp only [Act.put, List.setIfInBounds_toArray, List.set_cons_zero, List.set_cons_succ]
      try rfl
    · simp only [Act.put, List.setIfInBounds_toArray, List.set_cons_zero, List.set_cons_succ]
      rfl
    apply obs_step
    · rfl
    · intro w9 hE9 hk
      clear hk hE9
      go_wp2
      refine post_eq ?_ (Below.refl _ _)
      simp only [Act.put, List.setIfInBounds_toArray, List.set_cons_zero, List.set_cons_succ]
      try rfl
    · simp only [Act.put, List.setIfInBounds_toArray, List.set_cons_zero, List.set_cons_succ]
      rfl
    apply obs_step
    · rfl
    · intro w9 hE9 hk
      clear hk hE9
      have f1 := HW.out
      go_wp2
      refine post_eq ?_ (Below.refl _ _)
      simp only [Act.put, List.setIfInBounds_toArray, List.set_cons_zero, List.set_cons_succ]
      try rfl
    · simp only [Act.put, List.setIfInBounds_toArray, List.set_cons_zero, List.set_cons_succ]
      rfl
    apply obs_step
    · rfl
    · intro w9 hE9 hk
      clear hk hE9
      have f1 := S4.out
      go_wp2
      refine post_eq ?_ (Below.refl _ _)
      simp only [Act.put, List.setIfInBounds_toArray, List.set_cons_zero, List.set_cons_succ]
      try rfl
    · simp only [Act.put, List.setIfInBounds_toArray, List.set_cons_zero, List.set_cons_succ]
      rfl
    apply obs_step
    · rfl
    · intro w9 hE9 hk
      clear hk hE9
      go_wp2
      refine post_eq ?_ (Below.refl _ _)
      simp only [Act.put, List.setIfInBounds_toArray, List.set_cons_zero, List.set_cons_succ]
      try rfl
    · simp only [Act.put, List.setIfInBounds_toArray, List.set_cons_zero, List.set_cons_succ]
      rfl
    apply obs_step
    · rfl
    · intro w9 hE9 hk
      clear hk hE9
      go_wp2
      refine post_eq ?_ (Below.refl _ _)
      simp only [Act.put, List.setIfInBounds_toArray, List.set_cons_zero, List.set_cons_succ]
      try rfl
    · simp only [Act.put, List.setIfInBounds_toArray, List.set_cons_zero, List.set_cons_succ]
      rfl
    apply obs_step
    · rfl
    · intro w9 hE9 hk
      clear hk hE9
      go_wp2
      refine post_eq ?_ (Below.refl _ _)
      simp only [Act.put, List.setIfInBounds_toArray, List.set_cons_zero, List.set_cons_succ]
      try rfl
    · simp only [Act.put, List.setIfInBounds_toArray, List.set_cons_zero, List.set_cons_succ]
      rfl
    apply obs_step
    · rfl
    · intro w9 hE9 hk
      clear hk hE9
      go_wp2
      refine post_eq ?_ (Below.refl _ _)
      simp only [Act.put, List.setIfInBounds_toArray, List.set_cons_zero, List.set_cons_succ]
      try rfl
    · simp only [Act.put, List.setIfInBounds_toArray, List.set_cons_zero, List.set_cons_succ]
      rfl
    apply obs_step
    · rfl
    · intro w9 hE9 hk
      obtain ⟨X9, Q9⟩ := XB.out w9 hE9
      clear hk hE9
      have c0 := Q9.cellAt (i := 0) (by simp)
      simp at c0
      go_wp2
      refine post_eq ?_ (Below.refl _ _)
      simp only [Act.put, List.setIfInBounds_toArray, List.set_cons_zero, List.set_cons_succ]
      try rfl
    · simp only [Act.put, List.setIfInBounds_toArray, List.set_cons_zero, List.set_cons_succ]
      rfl
    apply obs_step
    · rfl
    · intro w9 hE9 hk
      clear hk hE9
      go_wp2
      refine post_eq ?_ (Below.refl _ _)
      simp only [Act.put, List.setIfInBounds_toArray, List.set_cons_zero, List.set_cons_succ]
      try rfl
    · simp only [Act.put, List.setIfInBounds_toArray, List.set_cons_zero, List.set_cons_succ]
      rfl
    apply obs_step
    · rfl
    · intro w9 hE9 hk
      clear hk hE9
      go_wp2
      refine post_eq ?_ (Below.refl _ _)
      simp only [Act.put, List.setIfInBounds_toArray, List.set_cons_zero, List.set_cons_succ]
      try rfl
    · simp only [Act.put, List.setIfInBounds_toArray, List.set_cons_zero, List.set_cons_succ]
      rfl
    apply obs_step
    · rfl
    · intro w9 hE9 hk
      clear hk hE9
      go_wp2
      refine post_eq ?_ (Below.refl _ _)
      simp only [Act.put, List.setIfInBounds_toArray, List.set_cons_zero, List.set_cons_succ]
      try rfl
    · simp only [Act.put, List.setIfInBounds_toArray, List.set_cons_zero, List.set_cons_succ]
      rfl
    refine obs_end fun w9 hE9 _ => ?_
    have hB9 : Below gx w w9 := HB.out.drew.trans (hE9.mono (by have := HB.out.size; rw [hgx.out] at this; exact this))
    clear hE9 XB HB
    go_wp2
    go_ret
    exact ⟨rfl, by rw [hgx.out]; exact hB9⟩
end
theorem walkPageParts (a : Int) (d : ByteArray) (o : Int) (s : ByteArray) (x : Int) (w : World) (_ : (Lit.int .i64 a).wf = true) (_ : d.size ≤ maxLen) (_ : (Lit.int .i64 o).wf = true) (_ : s.size ≤ maxLen) (_ : (Lit.int .i64 x).wf = true) :
    Calls Try.prog 7 #[.agg #[.int .i64 a, .string d], .int .i64 o, .string s, .int .i64 x] w fun e w' => e = .returned (.bool true) ∧ Below w.heap.size w w' := by
  by_cases hl : (500 : Int) < s.size
  · exact pageParts_long a o x d s w hl
  · by_cases hd : (500 : Int) < d.size
    · exact pageParts_wide a o x d s w (by omega) hd
    · by_cases he : (putR a d o s x).2.2 = 0
      · exact pageParts_ok a o x d s w (by omega) (by omega) he
      · exact pageParts_err a o x d s w (by omega) (by omega) he
end Go.Proofs.Ytjnnkbbgeckgkaa
