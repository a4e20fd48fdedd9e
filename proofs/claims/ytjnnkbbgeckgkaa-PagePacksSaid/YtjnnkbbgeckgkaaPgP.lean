/- Layer 6's statements: the walk of PagePacks. -/
import Derived.Test.YtjnnkbbgeckgkaaPgK
import Derived.Test.YtjnnkbbgeckgkaaPgH
namespace Go.Proofs.Ytjnnkbbgeckgkaa
open Go.RowKit

set_option maxRecDepth 100000 in
set_option maxHeartbeats 1000000 in
/-- '!=' between pages. -/
theorem page_neq (A A' : Int) (D D' : ByteArray) (W : World) : (binOp .neq 23 (.agg #[.int .i64 A, .string D]) (.agg #[.int .i64 A', .string D'])).run Try.prog W =
    .ok (.bool (!(A == A' && D.toList == D'.toList))) W := by
  go_simp
  by_cases h1 : A = A' <;> by_cases h2 : D.toList = D'.toList <;> simp [h1, h2]
theorem wp_page_neq {ops : Array Oper} {rest : List Oper} {o : Oper} {a : Act} {w : World} {Q : Exit → Act → World → Prop} (x y : Operand) (ty : TypeId) (ho : o.op = .binOp .neq 23 x y ty)
    (hw : Region.wanted o (yielded ops a.tmps) = true) (A A' : Int) (D D' : ByteArray) (hx : a.eval x = .agg #[.int .i64 A, .string D]) (hy : a.eval y = .agg #[.int .i64 A', .string D'])
    (h : wpList Try.prog ops Q rest (a.put o.dst (.bool (!(A == A' && D.toList == D'.toList)))) w) : wpList Try.prog ops Q (o :: rest) a w := by
  unfold wpList
  rw [if_pos hw]
  refine .inl ?_
  unfold Oper.wp execOp
  simp only [ho, hx, hy, Sem.run_bind, run_eqGuard_agg w .neq 23 x y _ _ page_guard, Result.andThen_ok, page_neq, Sem.run_pure, Oper.upon_value]
  exact h

section
set_option maxRecDepth 100000
variable (a : Int) (d s : ByteArray) (w : World)

set_option maxHeartbeats 32000000 in
theorem pagePacks_long (hl : (1000 : Int) < s.size) : Calls Try.prog 4 #[.agg #[.int .i64 a, .string d], .string s] w fun e w' => e = .returned (.bool true) ∧ Below w.heap.size w w' := by
  have AW := Lib.hid awake_any
  go_enter Try.func4, Try.ntmps4
  go_wp2_with fail
  have X0 := Blk.new w 23 #[.int .i64 a, .string d]
  have hB := (Below.refl w.heap.size w).alloc (Nat.le_refl _) (.cells #[.int .i64 a, .string d] 23)
  generalize (w.alloc (.cells #[.int .i64 a, .string d] 23)) = w1 at *
  refine (AW.out _).mono ?_
  rintro e w2 ⟨rfl, hb⟩
  replace X0 := X0.keep hb X0.lt
  replace hB := hB.trans (hb.mono hB.size)
  clear hb
  have c0 := X0.cellAt (i := 0) (by simp)
  have c1 := X0.cellAt (i := 1) (by simp)
  simp at c0 c1
  go_wp2_with fail
  refine (AW.out _).mono ?_
  rintro e w3 ⟨rfl, hb⟩
  replace hB := hB.trans (hb.mono hB.size)
  go_wp2
  go_ret
  exact ⟨rfl, hB⟩

set_option maxHeartbeats 32000000 in
theorem pagePacks_wide (hl : (s.size : Int) ≤ 1000) (hd : (1000 : Int) < d.size) : Calls Try.prog 4 #[.agg #[.int .i64 a, .string d], .string s] w fun e w' => e = .returned (.bool true) ∧ Below w.heap.size w w' := by
  have AW := Lib.hid awake_any
  go_enter Try.func4, Try.ntmps4
  go_wp2_with fail
  have X0 := Blk.new w 23 #[.int .i64 a, .string d]
  have hB := (Below.refl w.heap.size w).alloc (Nat.le_refl _) (.cells #[.int .i64 a, .string d] 23)
  generalize (w.alloc (.cells #[.int .i64 a, .string d] 23)) = w1 at *
  refine (AW.out _).mono ?_
  rintro e w2 ⟨rfl, hb⟩
  replace X0 := X0.keep hb X0.lt
  replace hB := hB.trans (hb.mono hB.size)
  clear hb
  have c0 := X0.cellAt (i := 0) (by simp)
  have c1 := X0.cellAt (i := 1) (by simp)
  simp at c0 c1
  go_wp2_with fail
  refine (AW.out _).mono ?_
  rintro e w3 ⟨rfl, hb⟩
  replace hB := hB.trans (hb.mono hB.size)
  go_wp2
  go_ret
  exact ⟨rfl, hB⟩

set_option maxHeartbeats 32000000 in
theorem pagePacks_short (hl : (s.size : Int) ≤ 1000) (hd : (d.size : Int) ≤ 1000) (U : Int) (D : ByteArray) (E : Int) (yes : Bool) (hE : (yes = true ∧ E = 0) ∨ (yes = false ∧ E = 3)) (hup : ∀ W, Calls Try.prog 18 #[.string s] W fun e w' => e = .returned (.tuple #[.agg #[.int .i64 U, .string D], .int .i64 E]) ∧ Below W.heap.size W w') (hur : ∀ W, Calls Try.prog 19 #[.string s] W fun e w' => e = .returned (.tuple #[.agg #[.int .i64 U, .string D], .bool yes]) ∧ Below W.heap.size W w') : Calls Try.prog 4 #[.agg #[.int .i64 a, .string d], .string s] w fun e w' => e = .returned (.bool true) ∧ Below w.heap.size w w' := by
  have AW := Lib.hid awake_any
  have UP := Lib.hid hup
  have UR := Lib.hid hur
  have t1 : decide ((1000 : Int) < s.size) = false := by simp; omega
  have t2 : decide ((1000 : Int) < d.size) = false := by simp; omega
  clear hup hur hl hd
  have PA := Lib.hid (fun W => pack_any a d W)
  by_cases hp : PgOk a d
  · obtain ⟨A, rfl⟩ := Int.eq_ofNat_of_zero_le hp.1.1
    have hA : A ≤ 2147483647 := by have := hp.1.2; omega
    have PK := Lib.hid (fun W => pack_ok A d W hA hp.2)
    have RR := Lib.hid (fun W => refRight_any A d W true (by simp [hp]))
    have UK := Lib.hid (fun W => unpack_yes (packS A d) W (isPage_pack hA hp.2))
    rw [pack_at hA, pack_rest] at UK
    have RK := Lib.hid (fun W => refPack_ok A d W hA hp.2)
    clear hp hA PA
    generalize packS A d = t at *
    rcases hE with ⟨rfl, rfl⟩ | ⟨rfl, rfl⟩
    all_goals
      go_enter Try.func4, Try.ntmps4
      go_wp2_with fail
      have X0 := Blk.new w 23 #[.int .i64 A, .string d]
      have hB := (Below.refl w.heap.size w).alloc (Nat.le_refl _) (.cells #[.int .i64 A, .string d] 23)
      generalize (w.alloc (.cells #[.int .i64 A, .string d] 23)) = w1 at *
      refine (AW.out _).mono ?_
      rintro e w2 ⟨rfl, hb⟩
      replace X0 := X0.keep hb X0.lt
      replace hB := hB.trans (hb.mono hB.size)
      clear hb
      clear AW
      have c0 := X0.cellAt (i := 0) (by simp)
      have c1 := X0.cellAt (i := 1) (by simp)
      simp at c0 c1
      go_wp2_with fail
      refine (UP.out _).mono ?_
      rintro e w3 ⟨rfl, hb⟩
      replace X0 := X0.keep hb X0.lt
      replace hB := hB.trans (hb.mono hB.size)
      clear hb c0 c1 UP t1 t2
      have N0 := Blk.new w3 23 #[.int .i64 0, .string ⟨#[]⟩]
      have Q0 := N0.setRow #[.int .i64 U, .string D]
      replace X0 := (X0.alloc (.cells #[.int .i64 0, .string ⟨#[]⟩] 23)).farRow (k := w3.heap.size) (by have := X0.lt; omega) #[.int .i64 U, .string D]
      replace hB := below_setRow (hB.alloc hB.size (.cells #[.int .i64 0, .string ⟨#[]⟩] 23)) (g := w3.heap.size) hB.size #[.int .i64 U, .string D]
      go_upto_region 4 with (refine wpList_store_row rfl 23 _ _ rfl w3.heap.size _ rfl rfl 23 _ N0 (by kernel_rfl) (by simp) (by simp [Value.oneCell']) ?_)
      clear N0
      generalize (w3.alloc _).setRow _ _ = w4 at *
      generalize w3.heap.size = gq at *
      go_wp2_with fail
      refine (UR.out _).mono ?_
      rintro e w5 ⟨rfl, hb⟩
      replace X0 := X0.keep hb X0.lt
      replace Q0 := Q0.keep hb Q0.lt
      replace hB := hB.trans (hb.mono hB.size)
      clear hb UR
      have N0 := Blk.new w5 23 #[.int .i64 0, .string ⟨#[]⟩]
      have R0 := N0.setRow #[.int .i64 U, .string D]
      replace X0 := (X0.alloc (.cells #[.int .i64 0, .string ⟨#[]⟩] 23)).farRow (k := w5.heap.size) (by have := X0.lt; omega) #[.int .i64 U, .string D]
      replace Q0 := (Q0.alloc (.cells #[.int .i64 0, .string ⟨#[]⟩] 23)).farRow (k := w5.heap.size) (by have := Q0.lt; omega) #[.int .i64 U, .string D]
      replace hB := below_setRow (hB.alloc hB.size (.cells #[.int .i64 0, .string ⟨#[]⟩] 23)) (g := w5.heap.size) hB.size #[.int .i64 U, .string D]
      go_upto_region 5 with (refine wpList_store_row rfl 23 _ _ rfl w5.heap.size _ rfl rfl 23 _ N0 (by kernel_rfl) (by simp) (by simp [Value.oneCell']) ?_)
      clear N0
      generalize (w5.alloc _).setRow _ _ = w6 at *
      generalize w5.heap.size = gr at *
      have q0 := Q0.cellAt (i := 0) (by simp)
      have q1 := Q0.cellAt (i := 1) (by simp)
      simp at q0 q1
      have r0 := R0.cellAt (i := 0) (by simp)
      have r1 := R0.cellAt (i := 1) (by simp)
      simp at r0 r1
      have c0 := X0.cellAt (i := 0) (by simp)
      have c1 := X0.cellAt (i := 1) (by simp)
      simp at c0 c1
      go_wp2_with (refine wp_page_neq _ _ _ rfl rfl U U D D rfl rfl ?_)
      refine (PK.out _).mono ?_
      rintro e w7 ⟨rfl, hb⟩
      replace X0 := X0.keep hb X0.lt
      replace hB := hB.trans (hb.mono hB.size)
      clear hb q0 q1 r0 r1 c0 c1 PK Q0 R0
      have c0 := X0.cellAt (i := 0) (by simp)
      have c1 := X0.cellAt (i := 1) (by simp)
      simp at c0 c1
      go_wp2_with fail
      refine (RR.out _).mono ?_
      rintro e w8 ⟨rfl, hb⟩
      replace X0 := X0.keep hb X0.lt
      replace hB := hB.trans (hb.mono hB.size)
      clear hb c0 c1 RR
      go_wp2_with fail
      refine (UK.out _).mono ?_
      rintro e w9 ⟨rfl, hb⟩
      replace X0 := X0.keep hb X0.lt
      replace hB := hB.trans (hb.mono hB.size)
      clear hb UK
      have N0 := Blk.new w9 23 #[.int .i64 0, .string ⟨#[]⟩]
      have V0 := N0.setRow #[.int .i64 A, .string d]
      replace X0 := (X0.alloc (.cells #[.int .i64 0, .string ⟨#[]⟩] 23)).farRow (k := w9.heap.size) (by have := X0.lt; omega) #[.int .i64 A, .string d]
      replace hB := below_setRow (hB.alloc hB.size (.cells #[.int .i64 0, .string ⟨#[]⟩] 23)) (g := w9.heap.size) hB.size #[.int .i64 A, .string d]
      go_upto_region 11 with (refine wpList_store_row rfl 23 _ _ rfl w9.heap.size _ rfl rfl 23 _ N0 (by kernel_rfl) (by simp) (by simp [Value.oneCell']) ?_)
      clear N0
      generalize (w9.alloc _).setRow _ _ = w10 at *
      generalize w9.heap.size = gv at *
      have c0 := X0.cellAt (i := 0) (by simp)
      have c1 := X0.cellAt (i := 1) (by simp)
      simp at c0 c1
      go_wp2_with fail
      refine (RK.out _).mono ?_
      rintro e w11 ⟨rfl, hb⟩
      replace X0 := X0.keep hb X0.lt
      replace V0 := V0.keep hb V0.lt
      replace hB := hB.trans (hb.mono hB.size)
      clear hb c0 c1 RK
      have c0 := X0.cellAt (i := 0) (by simp)
      have c1 := X0.cellAt (i := 1) (by simp)
      simp at c0 c1
      have v0 := V0.cellAt (i := 0) (by simp)
      have v1 := V0.cellAt (i := 1) (by simp)
      simp at v0 v1
      go_wp2_with (refine wp_page_eql _ _ _ rfl rfl A A d d rfl rfl ?_)
      go_ret
      refine ⟨?_, hB⟩
      first | rfl | simp
  · have PK := Lib.hid (fun W => pack_form a d W hp)
    have RR := Lib.hid (fun W => refRight_any a d W false (by simp [hp]))
    clear hp PA
    rcases hE with ⟨rfl, rfl⟩ | ⟨rfl, rfl⟩
    all_goals
      go_enter Try.func4, Try.ntmps4
      go_wp2_with fail
      have X0 := Blk.new w 23 #[.int .i64 a, .string d]
      have hB := (Below.refl w.heap.size w).alloc (Nat.le_refl _) (.cells #[.int .i64 a, .string d] 23)
      generalize (w.alloc (.cells #[.int .i64 a, .string d] 23)) = w1 at *
      refine (AW.out _).mono ?_
      rintro e w2 ⟨rfl, hb⟩
      replace X0 := X0.keep hb X0.lt
      replace hB := hB.trans (hb.mono hB.size)
      clear hb
      clear AW
      have c0 := X0.cellAt (i := 0) (by simp)
      have c1 := X0.cellAt (i := 1) (by simp)
      simp at c0 c1
      go_wp2_with fail
      refine (UP.out _).mono ?_
      rintro e w3 ⟨rfl, hb⟩
      replace X0 := X0.keep hb X0.lt
      replace hB := hB.trans (hb.mono hB.size)
      clear hb c0 c1 UP t1 t2
      have N0 := Blk.new w3 23 #[.int .i64 0, .string ⟨#[]⟩]
      have Q0 := N0.setRow #[.int .i64 U, .string D]
      replace X0 := (X0.alloc (.cells #[.int .i64 0, .string ⟨#[]⟩] 23)).farRow (k := w3.heap.size) (by have := X0.lt; omega) #[.int .i64 U, .string D]
      replace hB := below_setRow (hB.alloc hB.size (.cells #[.int .i64 0, .string ⟨#[]⟩] 23)) (g := w3.heap.size) hB.size #[.int .i64 U, .string D]
      go_upto_region 4 with (refine wpList_store_row rfl 23 _ _ rfl w3.heap.size _ rfl rfl 23 _ N0 (by kernel_rfl) (by simp) (by simp [Value.oneCell']) ?_)
      clear N0
      generalize (w3.alloc _).setRow _ _ = w4 at *
      generalize w3.heap.size = gq at *
      go_wp2_with fail
      refine (UR.out _).mono ?_
      rintro e w5 ⟨rfl, hb⟩
      replace X0 := X0.keep hb X0.lt
      replace Q0 := Q0.keep hb Q0.lt
      replace hB := hB.trans (hb.mono hB.size)
      clear hb UR
      have N0 := Blk.new w5 23 #[.int .i64 0, .string ⟨#[]⟩]
      have R0 := N0.setRow #[.int .i64 U, .string D]
      replace X0 := (X0.alloc (.cells #[.int .i64 0, .string ⟨#[]⟩] 23)).farRow (k := w5.heap.size) (by have := X0.lt; omega) #[.int .i64 U, .string D]
      replace Q0 := (Q0.alloc (.cells #[.int .i64 0, .string ⟨#[]⟩] 23)).farRow (k := w5.heap.size) (by have := Q0.lt; omega) #[.int .i64 U, .string D]
      replace hB := below_setRow (hB.alloc hB.size (.cells #[.int .i64 0, .string ⟨#[]⟩] 23)) (g := w5.heap.size) hB.size #[.int .i64 U, .string D]
      go_upto_region 5 with (refine wpList_store_row rfl 23 _ _ rfl w5.heap.size _ rfl rfl 23 _ N0 (by kernel_rfl) (by simp) (by simp [Value.oneCell']) ?_)
      clear N0
      generalize (w5.alloc _).setRow _ _ = w6 at *
      generalize w5.heap.size = gr at *
      have q0 := Q0.cellAt (i := 0) (by simp)
      have q1 := Q0.cellAt (i := 1) (by simp)
      simp at q0 q1
      have r0 := R0.cellAt (i := 0) (by simp)
      have r1 := R0.cellAt (i := 1) (by simp)
      simp at r0 r1
      have c0 := X0.cellAt (i := 0) (by simp)
      have c1 := X0.cellAt (i := 1) (by simp)
      simp at c0 c1
      go_wp2_with (refine wp_page_neq _ _ _ rfl rfl U U D D rfl rfl ?_)
      refine (PK.out _).mono ?_
      rintro e w7 ⟨rfl, hb⟩
      replace X0 := X0.keep hb X0.lt
      replace hB := hB.trans (hb.mono hB.size)
      clear hb q0 q1 r0 r1 c0 c1 PK Q0 R0
      have c0 := X0.cellAt (i := 0) (by simp)
      have c1 := X0.cellAt (i := 1) (by simp)
      simp at c0 c1
      go_wp2_with fail
      refine (RR.out _).mono ?_
      rintro e w8 ⟨rfl, hb⟩
      replace X0 := X0.keep hb X0.lt
      replace hB := hB.trans (hb.mono hB.size)
      clear hb c0 c1 RR
      go_wp2
      go_ret
      exact ⟨rfl, hB⟩
end
theorem walkPagePacks (a : Int) (d : ByteArray) (s : ByteArray) (w : World) (_ : (Lit.int .i64 a).wf = true) (_ : d.size ≤ maxLen) (_ : s.size ≤ maxLen) :
    Calls Try.prog 4 #[.agg #[.int .i64 a, .string d], .string s] w fun e w' => e = .returned (.bool true) ∧ Below w.heap.size w w' := by
  by_cases hl : (1000 : Int) < s.size
  · exact pagePacks_long a d s w hl
  · by_cases hd : (1000 : Int) < d.size
    · exact pagePacks_wide a d s w (by omega) hd
    · by_cases hp : IsPage s
      · exact pagePacks_short a d s w (by omega) (by omega) _ _ 0 true (.inl ⟨rfl, rfl⟩) (fun W => unpack_yes s W hp) (fun W => refUnpack_yes s W hp)
      · exact pagePacks_short a d s w (by omega) (by omega) _ _ 3 false (.inr ⟨rfl, rfl⟩) (fun W => unpack_no s W hp) (fun W => refUnpack_no s W hp)
end Go.Proofs.Ytjnnkbbgeckgkaa
