/- Layer 6's statements: the walk of PagePuts. -/
import Derived.Test.YtjnnkbbgeckgkaaPgK
import Derived.Test.YtjnnkbbgeckgkaaPgF
namespace Go.Proofs.Ytjnnkbbgeckgkaa
open Go.RowKit

section
set_option maxRecDepth 100000
variable (a o n x : Int) (d s : ByteArray) (w : World)

set_option maxHeartbeats 8000000 in
theorem pagePuts_long (hl : (500 : Int) < s.size) : Calls Try.prog 3 #[.agg #[.int .i64 a, .string d], .int .i64 o, .int .i64 n, .int .i64 x, .string s] w fun e w' => e = .returned (.bool true) ∧ Below w.heap.size w w' := by
  have AW := Lib.hid awake_any
  go_enter Try.func3, Try.ntmps3
  go_wp2_with fail
  have X0 := Blk.new w 23 #[.int .i64 a, .string d]
  have hB := (Below.refl w.heap.size w).alloc (Nat.le_refl _) (.cells #[.int .i64 a, .string d] 23)
  have hx : w.heap.size < (w.alloc (.cells #[.int .i64 a, .string d] 23)).heap.size := X0.lt
  generalize (w.alloc (.cells #[.int .i64 a, .string d] 23)) = w1 at *
  refine (AW.out _).mono ?_
  rintro e w2 ⟨rfl, hb⟩
  replace X0 := X0.keep hb X0.lt
  replace hB := hB.trans (hb.mono hB.size)
  clear hb hx
  have c1 := X0.cellAt (i := 1) (by simp)
  simp at c1
  go_wp2_with fail
  refine (AW.out _).mono ?_
  rintro e w3 ⟨rfl, hb⟩
  replace hB := hB.trans (hb.mono hB.size)
  go_wp2
  go_ret
  exact ⟨rfl, hB⟩

set_option maxHeartbeats 8000000 in
theorem pagePuts_wide (hl : (s.size : Int) ≤ 500) (hd : (500 : Int) < d.size) : Calls Try.prog 3 #[.agg #[.int .i64 a, .string d], .int .i64 o, .int .i64 n, .int .i64 x, .string s] w fun e w' => e = .returned (.bool true) ∧ Below w.heap.size w w' := by
  have AW := Lib.hid awake_any
  go_enter Try.func3, Try.ntmps3
  go_wp2_with fail
  have X0 := Blk.new w 23 #[.int .i64 a, .string d]
  have hB := (Below.refl w.heap.size w).alloc (Nat.le_refl _) (.cells #[.int .i64 a, .string d] 23)
  have hx : w.heap.size < (w.alloc (.cells #[.int .i64 a, .string d] 23)).heap.size := X0.lt
  generalize (w.alloc (.cells #[.int .i64 a, .string d] 23)) = w1 at *
  refine (AW.out _).mono ?_
  rintro e w2 ⟨rfl, hb⟩
  replace X0 := X0.keep hb X0.lt
  replace hB := hB.trans (hb.mono hB.size)
  clear hb hx
  have c1 := X0.cellAt (i := 1) (by simp)
  simp at c1
  go_wp2_with fail
  refine (AW.out _).mono ?_
  rintro e w3 ⟨rfl, hb⟩
  replace hB := hB.trans (hb.mono hB.size)
  go_wp2
  go_ret
  exact ⟨rfl, hB⟩

set_option maxHeartbeats 32000000 in
theorem pagePuts_short (hl : (s.size : Int) ≤ 500) (hd : (d.size : Int) ≤ 500) (hn : (Lit.int .i64 n).wf = true) : Calls Try.prog 3 #[.agg #[.int .i64 a, .string d], .int .i64 o, .int .i64 n, .int .i64 x, .string s] w fun e w' => e = .returned (.bool true) ∧ Below w.heap.size w w' := by
  have AW := Lib.hid awake_any
  have PP := Lib.hid (fun W => put_any a o x d s W (by unfold maxLen; omega))
  have PR := Lib.hid (fun W => refPut_any a o x d s W)
  have GP := Lib.hid (fun W => get_any a o n d W hn)
  have GR := Lib.hid (fun W => refGet_any a o n d W)
  have RI := Lib.hid (fun W => right_any a d W (decide (PgOk a d)) rfl)
  have RR := Lib.hid (fun W => refRight_any a d W (decide (PgOk a d)) rfl)
  have EM := Lib.hid empty_any
  have ER := Lib.hid refEmpty_any
  have eT : ∀ t : ByteArray, (t.toList == t.toList) = true := by intro t; simp
  have t1 : decide ((500 : Int) < s.size) = false := by simp; omega
  have t2 : decide ((500 : Int) < d.size) = false := by simp; omega
  generalize (putR a d o s x).1 = A at *
  generalize (putR a d o s x).2.1 = D at *
  generalize (putR a d o s x).2.2 = E at *
  generalize (getR a d o n).1 = G at *
  generalize (getR a d o n).2 = H at *
  generalize decide (PgOk a d) = rt at *
  generalize noughts = no at *
  clear hl hd hn
  go_enter Try.func3, Try.ntmps3
  go_wp2_with fail
  have X0 := Blk.new w 23 #[.int .i64 a, .string d]
  have hB := (Below.refl w.heap.size w).alloc (Nat.le_refl _) (.cells #[.int .i64 a, .string d] 23)
  have hx : w.heap.size < (w.alloc (.cells #[.int .i64 a, .string d] 23)).heap.size := X0.lt
  generalize (w.alloc (.cells #[.int .i64 a, .string d] 23)) = w1 at *
  refine (AW.out _).mono ?_
  rintro e w2 ⟨rfl, hb⟩
  replace X0 := X0.keep hb X0.lt
  replace hB := hB.trans (hb.mono hB.size)
  clear hb hx
  have c1 := X0.cellAt (i := 1) (by simp)
  simp at c1
  clear c1 AW
  replace eT := Lib.hid eT
  have c0 := X0.cellAt (i := 0) (by simp)
  have c1 := X0.cellAt (i := 1) (by simp)
  simp at c0 c1
  go_wp2_with fail
  refine (PP.out _).mono ?_
  rintro e w3 ⟨rfl, hb⟩
  replace X0 := X0.keep hb X0.lt
  replace hB := hB.trans (hb.mono hB.size)
  clear hb c0 c1 PP t1 t2
  have N0 := Blk.new w3 23 #[.int .i64 0, .string ⟨#[]⟩]
  have Q0 := N0.setRow #[.int .i64 A, .string D]
  replace X0 := (X0.alloc (.cells #[.int .i64 0, .string ⟨#[]⟩] 23)).farRow (k := w3.heap.size) (by have := X0.lt; omega) #[.int .i64 A, .string D]
  replace hB := below_setRow (hB.alloc hB.size (.cells #[.int .i64 0, .string ⟨#[]⟩] 23)) (g := w3.heap.size) hB.size #[.int .i64 A, .string D]
  go_upto_region 4 with (refine wpList_store_row rfl 23 _ _ rfl w3.heap.size _ rfl rfl 23 _ N0 (by kernel_rfl) (by simp) (by simp [Value.oneCell']) ?_)
  clear N0
  generalize (w3.alloc _).setRow _ _ = w4 at *
  generalize w3.heap.size = gq at *
  have c0 := X0.cellAt (i := 0) (by simp)
  have c1 := X0.cellAt (i := 1) (by simp)
  simp at c0 c1
  go_wp2_with fail
  refine (PR.out _).mono ?_
  rintro e w5 ⟨rfl, hb⟩
  replace X0 := X0.keep hb X0.lt
  replace Q0 := Q0.keep hb Q0.lt
  replace hB := hB.trans (hb.mono hB.size)
  clear hb c0 c1 PR
  have N0 := Blk.new w5 23 #[.int .i64 0, .string ⟨#[]⟩]
  have R0 := N0.setRow #[.int .i64 A, .string D]
  replace X0 := (X0.alloc (.cells #[.int .i64 0, .string ⟨#[]⟩] 23)).farRow (k := w5.heap.size) (by have := X0.lt; omega) #[.int .i64 A, .string D]
  replace Q0 := (Q0.alloc (.cells #[.int .i64 0, .string ⟨#[]⟩] 23)).farRow (k := w5.heap.size) (by have := Q0.lt; omega) #[.int .i64 A, .string D]
  replace hB := below_setRow (hB.alloc hB.size (.cells #[.int .i64 0, .string ⟨#[]⟩] 23)) (g := w5.heap.size) hB.size #[.int .i64 A, .string D]
  go_upto_region 5 with (refine wpList_store_row rfl 23 _ _ rfl w5.heap.size _ rfl rfl 23 _ N0 (by kernel_rfl) (by simp) (by simp [Value.oneCell']) ?_)
  clear N0
  generalize (w5.alloc _).setRow _ _ = w6 at *
  generalize w5.heap.size = gr at *
  have c0 := X0.cellAt (i := 0) (by simp)
  have c1 := X0.cellAt (i := 1) (by simp)
  simp at c0 c1
  go_wp2_with fail
  refine (GP.out _).mono ?_
  rintro e w7 ⟨rfl, hb⟩
  replace X0 := X0.keep hb X0.lt
  replace Q0 := Q0.keep hb Q0.lt
  replace R0 := R0.keep hb R0.lt
  replace hB := hB.trans (hb.mono hB.size)
  clear hb c0 c1 GP
  have c0 := X0.cellAt (i := 0) (by simp)
  have c1 := X0.cellAt (i := 1) (by simp)
  simp at c0 c1
  go_wp2_with fail
  refine (GR.out _).mono ?_
  rintro e w8 ⟨rfl, hb⟩
  replace X0 := X0.keep hb X0.lt
  replace Q0 := Q0.keep hb Q0.lt
  replace R0 := R0.keep hb R0.lt
  replace hB := hB.trans (hb.mono hB.size)
  clear hb c0 c1 GR
  go_upto_region 7 with fail
  generalize hgx : w.heap.size = gx at *
  replace hgx := Lib.hid hgx
  have HB := Lib.hid hB
  have XB : Hid (∀ W, Below w8.drew.heap.size w8.drew W → Blk W gx 23 #[.int .i64 a, .string d] ∧ Blk W gq 23 #[.int .i64 A, .string D] ∧ Blk W gr 23 #[.int .i64 A, .string D]) := fun W h => ⟨X0.drew.keep h X0.lt, Q0.drew.keep h Q0.lt, R0.drew.keep h R0.lt⟩
  clear X0 Q0 R0 hB
  refine' wp_region_conf 30 (.is _ :: .is _ :: .is _ :: .is _ :: .is _ :: .is _ :: .is _ :: .is _ :: .is _ :: .is _ :: .is _ :: .is _ :: .is _ :: .is _ :: .is _ :: .is _ :: .is _ :: .is _ :: .is _ :: .is _ :: .is _ :: .is _ :: .is _ :: .is _ :: .is _ :: .is _ :: .is _ :: .is _ :: .is _ :: .is _ :: []) (by kernel_rfl) (by kernel_rfl) (by kernel_rfl) (by kernel_rfl) rfl ?main
  case main =>
    apply obs_step
    · rfl
    · intro w9 hE9 hk
      obtain ⟨X9, Q9, R9⟩ := XB.out w9 hE9
      clear hk hE9
      have c0 := Q9.cellAt (i := 0) (by simp)
      have c1 := Q9.cellAt (i := 1) (by simp)
      simp at c0 c1
      go_wp2
      refine post_eq ?_ (Below.refl _ _)
      simp only [Act.put, List.setIfInBounds_toArray, List.set_cons_zero, List.set_cons_succ]
      try rfl
    · simp only [Act.put, List.setIfInBounds_toArray, List.set_cons_zero, List.set_cons_succ]
      rfl
    apply obs_step
    · rfl
    · intro w9 hE9 hk
      obtain ⟨X9, Q9, R9⟩ := XB.out w9 hE9
      clear hk hE9
      have c0 := R9.cellAt (i := 0) (by simp)
      have c1 := R9.cellAt (i := 1) (by simp)
      simp at c0 c1
      go_wp2
      refine post_eq ?_ (Below.refl _ _)
      simp only [Act.put, List.setIfInBounds_toArray, List.set_cons_zero, List.set_cons_succ]
      try rfl
    · simp only [Act.put, List.setIfInBounds_toArray, List.set_cons_zero, List.set_cons_succ]
      rfl
    apply obs_step
    · rfl
    · intro w9 hE9 hk
      clear hk hE9
      go_wp2_with (refine wp_page_eql _ _ _ rfl rfl _ _ _ _ rfl rfl ?_)
      try rw [eT.out]
      refine post_eq ?_ (Below.refl _ _)
      simp only [Act.put, List.setIfInBounds_toArray, List.set_cons_zero, List.set_cons_succ]
      try rfl
    · simp only [Act.put, List.setIfInBounds_toArray, List.set_cons_zero, List.set_cons_succ]
      rfl
    apply obs_step
    · rfl
    · intro w9 hE9 hk
      clear hk hE9
      go_wp2
      refine post_eq ?_ (Below.refl _ _)
      simp only [Act.put, List.setIfInBounds_toArray, List.set_cons_zero, List.set_cons_succ]
      try rfl
    · simp only [Act.put, List.setIfInBounds_toArray, List.set_cons_zero, List.set_cons_succ]
      rfl
    apply obs_step
    · rfl
    · intro w9 hE9 hk
      clear hk hE9
      go_wp2
      refine post_eq ?_ (Below.refl _ _)
      simp only [Act.put, List.setIfInBounds_toArray, List.set_cons_zero, List.set_cons_succ]
      try rfl
    · simp only [Act.put, List.setIfInBounds_toArray, List.set_cons_zero, List.set_cons_succ]
      rfl
    apply obs_step
    · rfl
    · intro w9 hE9 hk
      clear hk hE9
      go_wp2
      refine post_eq ?_ (Below.refl _ _)
      simp only [Act.put, List.setIfInBounds_toArray, List.set_cons_zero, List.set_cons_succ]
      try rfl
    · simp only [Act.put, List.setIfInBounds_toArray, List.set_cons_zero, List.set_cons_succ]
      rfl
    apply obs_step
    · rfl
    · intro w9 hE9 hk
      clear hk hE9
      go_wp2
      refine post_eq ?_ (Below.refl _ _)
      simp only [Act.put, List.setIfInBounds_toArray, List.set_cons_zero, List.set_cons_succ]
      try rfl
    · simp only [Act.put, List.setIfInBounds_toArray, List.set_cons_zero, List.set_cons_succ]
      rfl
    apply obs_step
    · rfl
    · intro w9 hE9 hk
      clear hk hE9
      go_wp2
      refine post_eq ?_ (Below.refl _ _)
      simp only [Act.put, List.setIfInBounds_toArray, List.set_cons_zero, List.set_cons_succ]
      try rfl
    · simp only [Act.put, List.setIfInBounds_toArray, List.set_cons_zero, List.set_cons_succ]
      rfl
    apply obs_step
    · rfl
    · intro w9 hE9 hk
      clear hk hE9
      go_wp2
      refine post_eq ?_ (Below.refl _ _)
      simp only [Act.put, List.setIfInBounds_toArray, List.set_cons_zero, List.set_cons_succ]
      try rfl
    · simp only [Act.put, List.setIfInBounds_toArray, List.set_cons_zero, List.set_cons_succ]
      rfl
    apply obs_step
    · rfl
    · intro w9 hE9 hk
      clear hk hE9
      go_wp2
      refine post_eq ?_ (Below.refl _ _)
      simp only [Act.put, List.setIfInBounds_toArray, List.set_cons_zero, List.set_cons_succ]
      try rfl
    · simp only [Act.put, List.setIfInBounds_toArray, List.set_cons_zero, List.set_cons_succ]
      rfl
    apply obs_step
    · rfl
    · intro w9 hE9 hk
      clear hk hE9
      go_wp2
      refine post_eq ?_ (Below.refl _ _)
      simp only [Act.put, List.setIfInBounds_toArray, List.set_cons_zero, List.set_cons_succ]
      try rfl
    · simp only [Act.put, List.setIfInBounds_toArray, List.set_cons_zero, List.set_cons_succ]
      rfl
    apply obs_step
    · rfl
    · intro w9 hE9 hk
      clear hk hE9
      go_wp2
      refine post_eq ?_ (Below.refl _ _)
      simp only [Act.put, List.setIfInBounds_toArray, List.set_cons_zero, List.set_cons_succ]
      try rfl
    · simp only [Act.put, List.setIfInBounds_toArray, List.set_cons_zero, List.set_cons_succ]
      rfl
    apply obs_step
    · rfl
    · intro w9 hE9 hk
      clear hk hE9
      go_wp2
      refine post_eq ?_ (Below.refl _ _)
      simp only [Act.put, List.setIfInBounds_toArray, List.set_cons_zero, List.set_cons_succ]
      try rfl
    · simp only [Act.put, List.setIfInBounds_toArray, List.set_cons_zero, List.set_cons_succ]
      rfl
    apply obs_step
    · rfl
    · intro w9 hE9 hk
      clear hk hE9
      go_wp2
      refine post_eq ?_ (Below.refl _ _)
      simp only [Act.put, List.setIfInBounds_toArray, List.set_cons_zero, List.set_cons_succ]
      try rfl
    · simp only [Act.put, List.setIfInBounds_toArray, List.set_cons_zero, List.set_cons_succ]
      rfl
    apply obs_step
    · rfl
    · intro w9 hE9 hk
      clear hk hE9
      go_wp2
      refine post_eq ?_ (Below.refl _ _)
      simp only [Act.put, List.setIfInBounds_toArray, List.set_cons_zero, List.set_cons_succ]
      try rfl
    · simp only [Act.put, List.setIfInBounds_toArray, List.set_cons_zero, List.set_cons_succ]
      rfl
    apply obs_step
    · rfl
    · intro w9 hE9 hk
      clear hk hE9
      go_wp2
      refine post_eq ?_ (Below.refl _ _)
      simp only [Act.put, List.setIfInBounds_toArray, List.set_cons_zero, List.set_cons_succ]
      try rfl
    · simp only [Act.put, List.setIfInBounds_toArray, List.set_cons_zero, List.set_cons_succ]
      rfl
    apply obs_step
    · rfl
    · intro w9 hE9 hk
      clear hk hE9
      go_wp2
      refine post_eq ?_ (Below.refl _ _)
      simp only [Act.put, List.setIfInBounds_toArray, List.set_cons_zero, List.set_cons_succ]
      try rfl
    · simp only [Act.put, List.setIfInBounds_toArray, List.set_cons_zero, List.set_cons_succ]
      rfl
    apply obs_step
    · rfl
    · intro w9 hE9 hk
      clear hk hE9
      go_wp2
      refine post_eq ?_ (Below.refl _ _)
      simp only [Act.put, List.setIfInBounds_toArray, List.set_cons_zero, List.set_cons_succ]
      try rfl
    · simp only [Act.put, List.setIfInBounds_toArray, List.set_cons_zero, List.set_cons_succ]
      rfl
    apply obs_step
    · rfl
    · intro w9 hE9 hk
      clear hk hE9
      go_wp2
      refine post_eq ?_ (Below.refl _ _)
      simp only [Act.put, List.setIfInBounds_toArray, List.set_cons_zero, List.set_cons_succ]
      try rfl
    · simp only [Act.put, List.setIfInBounds_toArray, List.set_cons_zero, List.set_cons_succ]
      rfl
    apply obs_step
    · rfl
    · intro w9 hE9 hk
      obtain ⟨X9, Q9, R9⟩ := XB.out w9 hE9
      clear hk hE9
      have c0 := X9.cellAt (i := 0) (by simp)
      have c1 := X9.cellAt (i := 1) (by simp)
      simp at c0 c1
      go_wp2
      refine post_eq ?_ (Below.refl _ _)
      simp only [Act.put, List.setIfInBounds_toArray, List.set_cons_zero, List.set_cons_succ]
      try rfl
    · simp only [Act.put, List.setIfInBounds_toArray, List.set_cons_zero, List.set_cons_succ]
      rfl
    apply obs_step
    · rfl
    · intro w9 hE9 hk
      clear hk hE9
      go_wp2_with fail
      refine (RI.out _).mono ?_
      rintro e w10 ⟨rfl, hb10⟩
      go_wp2
      refine post_eq ?_ hb10
      simp only [Act.put, List.setIfInBounds_toArray, List.set_cons_zero, List.set_cons_succ]
      try rfl
    · simp only [Act.put, List.setIfInBounds_toArray, List.set_cons_zero, List.set_cons_succ]
      rfl
    apply obs_step
    · rfl
    · intro w9 hE9 hk
      obtain ⟨X9, Q9, R9⟩ := XB.out w9 hE9
      clear hk hE9
      have c0 := X9.cellAt (i := 0) (by simp)
      have c1 := X9.cellAt (i := 1) (by simp)
      simp at c0 c1
      go_wp2
      refine post_eq ?_ (Below.refl _ _)
      simp only [Act.put, List.setIfInBounds_toArray, List.set_cons_zero, List.set_cons_succ]
      try rfl
    · simp only [Act.put, List.setIfInBounds_toArray, List.set_cons_zero, List.set_cons_succ]
      rfl
    apply obs_step
    · rfl
    · intro w9 hE9 hk
      clear hk hE9
      go_wp2_with fail
      refine (RR.out _).mono ?_
      rintro e w10 ⟨rfl, hb10⟩
      go_wp2
      refine post_eq ?_ hb10
      simp only [Act.put, List.setIfInBounds_toArray, List.set_cons_zero, List.set_cons_succ]
      try rfl
    · simp only [Act.put, List.setIfInBounds_toArray, List.set_cons_zero, List.set_cons_succ]
      rfl
    apply obs_step
    · rfl
    · intro w9 hE9 hk
      clear hk hE9
      go_wp2
      refine post_eq ?_ (Below.refl _ _)
      simp only [Act.put, List.setIfInBounds_toArray, List.set_cons_zero, List.set_cons_succ]
      try rfl
    · simp only [Act.put, List.setIfInBounds_toArray, List.set_cons_zero, List.set_cons_succ]
      rfl
    apply obs_step
    · rfl
    · intro w9 hE9 hk
      clear hk hE9
      go_wp2
      refine post_eq ?_ (Below.refl _ _)
      simp only [Act.put, List.setIfInBounds_toArray, List.set_cons_zero, List.set_cons_succ]
      try rfl
    · simp only [Act.put, List.setIfInBounds_toArray, List.set_cons_zero, List.set_cons_succ]
      rfl
    apply obs_step
    · rfl
    · intro w9 hE9 hk
      clear hk hE9
      go_wp2
      refine post_eq ?_ (Below.refl _ _)
      simp only [Act.put, List.setIfInBounds_toArray, List.set_cons_zero, List.set_cons_succ]
      try rfl
    · simp only [Act.put, List.setIfInBounds_toArray, List.set_cons_zero, List.set_cons_succ]
      rfl
    apply obs_step
    · rfl
    · intro w9 hE9 hk
      clear hk hE9
      go_wp2_with fail
      refine (EM.out _).mono ?_
      rintro e w10 ⟨rfl, hb10⟩
      go_wp2
      refine post_eq ?_ hb10
      simp only [Act.put, List.setIfInBounds_toArray, List.set_cons_zero, List.set_cons_succ]
      try rfl
    · simp only [Act.put, List.setIfInBounds_toArray, List.set_cons_zero, List.set_cons_succ]
      rfl
    apply obs_step
    · rfl
    · intro w9 hE9 hk
      clear hk hE9
      go_wp2_with fail
      refine (ER.out _).mono ?_
      rintro e w10 ⟨rfl, hb10⟩
      go_wp2
      refine post_eq ?_ hb10
      simp only [Act.put, List.setIfInBounds_toArray, List.set_cons_zero, List.set_cons_succ]
      try rfl
    · simp only [Act.put, List.setIfInBounds_toArray, List.set_cons_zero, List.set_cons_succ]
      rfl
    apply obs_step
    · rfl
    · intro w9 hE9 hk
      clear hk hE9
      go_wp2_with (refine wp_page_eql _ _ _ rfl rfl _ _ _ _ rfl rfl ?_)
      try rw [eT.out]
      refine post_eq ?_ (Below.refl _ _)
      simp only [Act.put, List.setIfInBounds_toArray, List.set_cons_zero, List.set_cons_succ]
      try rfl
    · simp only [Act.put, List.setIfInBounds_toArray, List.set_cons_zero, List.set_cons_succ]
      rfl
    apply obs_step
    · rfl
    · intro w9 hE9 hk
      clear hk hE9
      go_wp2
      refine post_eq ?_ (Below.refl _ _)
      simp only [Act.put, List.setIfInBounds_toArray, List.set_cons_zero, List.set_cons_succ]
      try rfl
    · simp only [Act.put, List.setIfInBounds_toArray, List.set_cons_zero, List.set_cons_succ]
      rfl
    refine obs_end fun w9 hE9 _ => ?_
    have hB9 : Below gx w w9 := HB.out.drew.trans (hE9.mono (by have := HB.out.size; rw [hgx.out] at this; exact this))
    clear hE9 XB HB
    go_wp2
    go_ret
    exact ⟨rfl, by rw [hgx.out]; exact hB9⟩
end
theorem walkPagePuts (a : Int) (d : ByteArray) (o n x : Int) (s : ByteArray) (w : World) (_ : (Lit.int .i64 a).wf = true) (_ : d.size ≤ maxLen) (_ : (Lit.int .i64 o).wf = true) (hn : (Lit.int .i64 n).wf = true) (_ : (Lit.int .i64 x).wf = true) (_ : s.size ≤ maxLen) :
    Calls Try.prog 3 #[.agg #[.int .i64 a, .string d], .int .i64 o, .int .i64 n, .int .i64 x, .string s] w fun e w' => e = .returned (.bool true) ∧ Below w.heap.size w w' := by
  by_cases hl : (500 : Int) < s.size
  · exact pagePuts_long a o n x d s w hl
  · by_cases hd : (500 : Int) < d.size
    · exact pagePuts_wide a o n x d s w (by omega) hd
    · exact pagePuts_short a o n x d s w (by omega) (by omega) hn
end Go.Proofs.Ytjnnkbbgeckgkaa
