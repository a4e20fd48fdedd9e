/- careenlaw06: what the document fixes comes out; pages held against one another. -/
import Derived.Test.YtjnnkbbgeckgkaaPgI
import Derived.Test.YtjnnkbbgeckgkaaRegion
namespace Go.Proofs.Ytjnnkbbgeckgkaa
open Go.RowKit

set_option maxRecDepth 100000 in
set_option maxHeartbeats 1000000 in
/-- '==' between pages. -/
theorem page_eql (A A' : Int) (D D' : ByteArray) (W : World) : (binOp .eql 23 (.agg #[.int .i64 A, .string D]) (.agg #[.int .i64 A', .string D'])).run Try.prog W =
    .ok (.bool (A == A' && D.toList == D'.toList)) W := by
  go_simp
  by_cases h1 : A = A' <;> by_cases h2 : D.toList = D'.toList <;> simp [h1, h2]
theorem page_guard : Try.prog.eqGuardType Try.prog.depth 23 = false := by kernel_rfl
/-- The walk's step at '==' between pages, as one law: guarded or not, where it is wanted. -/
theorem wp_page_eql {ops : Array Oper} {rest : List Oper} {o : Oper} {a : Act} {w : World} {Q : Exit → Act → World → Prop} (x y : Operand) (ty : TypeId) (ho : o.op = .binOp .eql 23 x y ty)
    (hw : Region.wanted o (yielded ops a.tmps) = true) (A A' : Int) (D D' : ByteArray) (hx : a.eval x = .agg #[.int .i64 A, .string D]) (hy : a.eval y = .agg #[.int .i64 A', .string D'])
    (h : wpList Try.prog ops Q rest (a.put o.dst (.bool (A == A' && D.toList == D'.toList))) w) : wpList Try.prog ops Q (o :: rest) a w := by
  unfold wpList
  rw [if_pos hw]
  refine .inl ?_
  unfold Oper.wp execOp
  simp only [ho, hx, hy, Sem.run_bind, run_eqGuard_agg w .eql 23 x y _ _ page_guard, Result.andThen_ok, page_eql, Sem.run_pure, Oper.upon_value]
  exact h

/-- The page of the chapter's example. -/
def pgAb : ByteArray := putS noughts 3 ⟨#[97, 98]⟩
theorem pgAb_at : putR 0 noughts 3 ⟨#[97, 98]⟩ 7 = (7, pgAb, 0) := by decide +kernel
theorem pgAb_get : getR 7 pgAb 2 4 = (⟨#[0, 97, 98, 0]⟩, 0) := by decide +kernel
theorem pgAb_no : putR 7 pgAb 219 ⟨#[97, 98]⟩ 8 = (0, ⟨#[]⟩, 2) := by decide +kernel
theorem pgAb_size : pgAb.size = 220 := by decide +kernel
def undoX : Rc := { Rc.nil with kind := 2, after := ⟨#[120]⟩ }
theorem pgAb_undo : applyR 7 pgAb 7 undoX = (7, pgAb) := by decide +kernel

set_option maxRecDepth 100000 in
set_option maxHeartbeats 16000000 in
theorem awake_any (w : World) : Calls Try.prog 9 #[] w fun e w' => e = .returned (.bool true) ∧ Below w.heap.size w w' := by
  have E0 := Lib.hid empty_any
  have P1 := Lib.hid (fun W => put_any 0 3 7 noughts ⟨#[97, 98]⟩ W (by decide))
  have G1 := Lib.hid (fun W => get_any 7 2 4 pgAb W (by decide))
  have P2 := Lib.hid (fun W => put_any 7 219 8 pgAb ⟨#[97, 98]⟩ W (by decide))
  have A1 := Lib.hid (fun W => apply_any (w := W) (r := undoX) 7 7 pgAb ⟨_, _, rfl, Lists.nil W undoX rfl rfl⟩ (by rw [pgAb_size]; omega) (by unfold Sized'; decide))
  rw [pgAb_at] at P1
  rw [pgAb_get] at G1
  rw [pgAb_no] at P2
  rw [pgAb_undo] at A1
  have n220 := noughts_size
  have hfd : ∀ W : World, (Instr.field 23 (.agg #[.int .i64 0, .string noughts]) 1).run Try.prog W = .ok (.string noughts) W := fun _ => by kernel_rfl
  have eT : (pgAb.toList == pgAb.toList) = true := by simp
  generalize noughts = no at *
  generalize pgAb = pa at *
  go_enter Try.func9, Try.ntmps9
  go_wp2_with fail
  refine (E0.out _).mono ?_
  rintro e w1 ⟨rfl, hb1⟩
  go_wp2_with fail
  refine (P1.out _).mono ?_
  rintro e w2 ⟨rfl, hb2⟩
  have X2 := Blk.new w2 23 #[.int .i64 0, .string ⟨#[]⟩]
  have X3 := X2.setRow #[.int .i64 7, .string pa]
  have hB := below2 hb1 hb2
  have hB3 := below_setRow (hB.alloc hB.size (.cells #[.int .i64 0, .string ⟨#[]⟩] 23)) (g := w2.heap.size) hB.size #[.int .i64 7, .string pa]
  go_upto_region 2 with (refine wpList_store_row rfl 23 _ _ rfl w2.heap.size _ rfl rfl 23 _ X2 (by kernel_rfl) (by simp) (by simp [Value.oneCell']) ?_)
  clear X2 hB hb1 hb2
  generalize (w2.alloc _).setRow _ _ = w3 at *
  generalize w2.heap.size = g at *
  have c0 := X3.cellAt (i := 0) (by simp)
  have c1 := X3.cellAt (i := 1) (by simp)
  simp at c0 c1
  go_wp2_with fail
  refine (G1.out _).mono ?_
  rintro e w4 ⟨rfl, hb⟩
  replace X3 := X3.keep hb X3.lt
  replace hB3 := below2 hB3 hb
  clear hb c0 c1
  have c0 := X3.cellAt (i := 0) (by simp)
  have c1 := X3.cellAt (i := 1) (by simp)
  simp at c0 c1
  go_wp2_with fail
  refine (P2.out _).mono ?_
  rintro e w5 ⟨rfl, hb⟩
  replace X3 := X3.keep hb X3.lt
  replace hB3 := below2 hB3 hb
  clear hb c0 c1
  have X5 := Blk.new w5 23 #[.int .i64 0, .string ⟨#[]⟩]
  have X6 := (X3.alloc (.cells #[.int .i64 0, .string ⟨#[]⟩] 23)).farRow (k := w5.heap.size) (by have := X3.lt; omega) #[.int .i64 0, .string ⟨#[]⟩]
  have hB6 := below_setRow (hB3.alloc hB3.size (.cells #[.int .i64 0, .string ⟨#[]⟩] 23)) (g := w5.heap.size) hB3.size #[.int .i64 0, .string ⟨#[]⟩]
  go_upto_region 4 with (refine wpList_store_row rfl 23 _ _ rfl w5.heap.size _ rfl rfl 23 _ X5 (by kernel_rfl) (by simp) (by simp [Value.oneCell']) ?_)
  clear X5 hB3 X3 P1 P2 G1
  generalize (w5.alloc _).setRow _ _ = w6 at *
  have XC : Hid (∀ W, Below w6.drew.heap.size w6.drew W → W.cell? ⟨g, 0, none⟩ = some (.int .i64 7) ∧ W.cell? ⟨g, 1, none⟩ = some (.string pa)) := fun W h => by
    have X7 := X6.drew.keep h X6.lt
    have c0 := X7.cellAt (i := 0) (by simp)
    have c1 := X7.cellAt (i := 1) (by simp)
    simp at c0 c1
    exact ⟨c0, c1⟩
  have HB := Lib.hid hB6
  clear X6 hB6
  refine' wp_region_conf 32 (.is _ :: .is _ :: .is _ :: .is _ :: .is _ :: .is _ :: .is _ :: .is _ :: .is _ :: .is _ :: .is _ :: .is _ :: .is _ :: .is _ :: .is _ :: .is _ :: .is _ :: .is _ :: .is _ :: .is _ :: .is _ :: .is _ :: .is _ :: .is _ :: .is _ :: .is _ :: .is _ :: .is _ :: .is _ :: .is _ :: .is _ :: .is _ :: []) (by kernel_rfl) (by kernel_rfl) (by kernel_rfl) (by kernel_rfl) rfl ?main
  case main =>
    apply obs_step
    · rfl
    · intro w9 hE9 hk
      clear hk hE9
      go_wp2
      refine post_eq ?_ (Below.refl _ _)
      simp only [Act.put, List.setIfInBounds_toArray, List.set_cons_zero, List.set_cons_succ]
      try rfl
    · simp only [Act.put, List.setIfInBounds_toArray, List.set_cons_zero, List.set_cons_succ]
      rfl
    apply obs_step
    · rfl
    · intro w9 hE9 hk
      clear hk hE9
      go_wp2
      refine post_eq ?_ (Below.refl _ _)
      simp only [Act.put, List.setIfInBounds_toArray, List.set_cons_zero, List.set_cons_succ]
      try rfl
    · simp only [Act.put, List.setIfInBounds_toArray, List.set_cons_zero, List.set_cons_succ]
      rfl
    apply obs_step
    · rfl
    · intro w9 hE9 hk
      clear hk hE9
      go_wp2
      refine post_eq ?_ (Below.refl _ _)
      simp only [Act.put, List.setIfInBounds_toArray, List.set_cons_zero, List.set_cons_succ]
      try rfl
    · simp only [Act.put, List.setIfInBounds_toArray, List.set_cons_zero, List.set_cons_succ]
      rfl
    apply obs_step
    · rfl
    · intro w9 hE9 hk
      clear hk hE9
      go_wp2
      refine post_eq ?_ (Below.refl _ _)
      simp only [Act.put, List.setIfInBounds_toArray, List.set_cons_zero, List.set_cons_succ]
      try rfl
    · simp only [Act.put, List.setIfInBounds_toArray, List.set_cons_zero, List.set_cons_succ]
      rfl
    apply obs_step
    · rfl
    · intro w9 hE9 hk
      have f := XC.out w9 hE9
      have f0 := f.1
      have f1 := f.2
      clear f
      clear hk hE9
      go_wp2
      refine post_eq ?_ (Below.refl _ _)
      simp only [Act.put, List.setIfInBounds_toArray, List.set_cons_zero, List.set_cons_succ]
      try rfl
    · simp only [Act.put, List.setIfInBounds_toArray, List.set_cons_zero, List.set_cons_succ]
      rfl
    apply obs_step
    · rfl
    · intro w9 hE9 hk
      clear hk hE9
      go_wp2
      refine post_eq ?_ (Below.refl _ _)
      simp only [Act.put, List.setIfInBounds_toArray, List.set_cons_zero, List.set_cons_succ]
      try rfl
    · simp only [Act.put, List.setIfInBounds_toArray, List.set_cons_zero, List.set_cons_succ]
      rfl
    apply obs_step
    · rfl
    · intro w9 hE9 hk
      clear hk hE9
      go_wp2
      refine post_eq ?_ (Below.refl _ _)
      simp only [Act.put, List.setIfInBounds_toArray, List.set_cons_zero, List.set_cons_succ]
      try rfl
    · simp only [Act.put, List.setIfInBounds_toArray, List.set_cons_zero, List.set_cons_succ]
      rfl
    apply obs_step
    · rfl
    · intro w9 hE9 hk
      clear hk hE9
      go_wp2
      refine post_eq ?_ (Below.refl _ _)
      simp only [Act.put, List.setIfInBounds_toArray, List.set_cons_zero, List.set_cons_succ]
      try rfl
    · simp only [Act.put, List.setIfInBounds_toArray, List.set_cons_zero, List.set_cons_succ]
      rfl
    apply obs_step
    · rfl
    · intro w9 hE9 hk
      clear hk hE9
      go_wp2
      refine post_eq ?_ (Below.refl _ _)
      simp only [Act.put, List.setIfInBounds_toArray, List.set_cons_zero, List.set_cons_succ]
      try rfl
    · simp only [Act.put, List.setIfInBounds_toArray, List.set_cons_zero, List.set_cons_succ]
      rfl
    apply obs_step
    · rfl
    · intro w9 hE9 hk
      clear hk hE9
      go_wp2
      refine post_eq ?_ (Below.refl _ _)
      simp only [Act.put, List.setIfInBounds_toArray, List.set_cons_zero, List.set_cons_succ]
      try rfl
    · simp only [Act.put, List.setIfInBounds_toArray, List.set_cons_zero, List.set_cons_succ]
      rfl
    apply obs_step
    · rfl
    · intro w9 hE9 hk
      clear hk hE9
      go_wp2
      refine post_eq ?_ (Below.refl _ _)
      simp only [Act.put, List.setIfInBounds_toArray, List.set_cons_zero, List.set_cons_succ]
      try rfl
    · simp only [Act.put, List.setIfInBounds_toArray, List.set_cons_zero, List.set_cons_succ]
      rfl
    apply obs_step
    · rfl
    · intro w9 hE9 hk
      clear hk hE9
      go_wp2
      refine post_eq ?_ (Below.refl _ _)
      simp only [Act.put, List.setIfInBounds_toArray, List.set_cons_zero, List.set_cons_succ]
      try rfl
    · simp only [Act.put, List.setIfInBounds_toArray, List.set_cons_zero, List.set_cons_succ]
      rfl
    apply obs_step
    · rfl
    · intro w9 hE9 hk
      clear hk hE9
      go_wp2
      refine post_eq ?_ (Below.refl _ _)
      simp only [Act.put, List.setIfInBounds_toArray, List.set_cons_zero, List.set_cons_succ]
      try rfl
    · simp only [Act.put, List.setIfInBounds_toArray, List.set_cons_zero, List.set_cons_succ]
      rfl
    apply obs_step
    · rfl
    · intro w9 hE9 hk
      clear hk hE9
      go_wp2
      refine post_eq ?_ (Below.refl _ _)
      simp only [Act.put, List.setIfInBounds_toArray, List.set_cons_zero, List.set_cons_succ]
      try rfl
    · simp only [Act.put, List.setIfInBounds_toArray, List.set_cons_zero, List.set_cons_succ]
      rfl
    apply obs_step
    · rfl
    · intro w9 hE9 hk
      clear hk hE9
      go_wp2
      refine post_eq ?_ (Below.refl _ _)
      simp only [Act.put, List.setIfInBounds_toArray, List.set_cons_zero, List.set_cons_succ]
      try rfl
    · simp only [Act.put, List.setIfInBounds_toArray, List.set_cons_zero, List.set_cons_succ]
      rfl
    apply obs_step
    · rfl
    · intro w9 hE9 hk
      clear hk hE9
      go_wp2
      refine post_eq ?_ (Below.refl _ _)
      simp only [Act.put, List.setIfInBounds_toArray, List.set_cons_zero, List.set_cons_succ]
      try rfl
    · simp only [Act.put, List.setIfInBounds_toArray, List.set_cons_zero, List.set_cons_succ]
      rfl
    apply obs_step
    · rfl
    · intro w9 hE9 hk
      clear hk hE9
      go_wp2
      refine post_eq ?_ (Below.refl _ _)
      simp only [Act.put, List.setIfInBounds_toArray, List.set_cons_zero, List.set_cons_succ]
      try rfl
    · simp only [Act.put, List.setIfInBounds_toArray, List.set_cons_zero, List.set_cons_succ]
      rfl
    apply obs_step
    · rfl
    · intro w9 hE9 hk
      clear hk hE9
      go_wp2
      refine post_eq ?_ (Below.refl _ _)
      simp only [Act.put, List.setIfInBounds_toArray, List.set_cons_zero, List.set_cons_succ]
      try rfl
    · simp only [Act.put, List.setIfInBounds_toArray, List.set_cons_zero, List.set_cons_succ]
      rfl
    apply obs_step
    · rfl
    · intro w9 hE9 hk
      clear hk hE9
      go_wp2
      refine post_eq ?_ (Below.refl _ _)
      simp only [Act.put, List.setIfInBounds_toArray, List.set_cons_zero, List.set_cons_succ]
      try rfl
    · simp only [Act.put, List.setIfInBounds_toArray, List.set_cons_zero, List.set_cons_succ]
      rfl
    apply obs_step
    · rfl
    · intro w9 hE9 hk
      clear hk hE9
      go_wp2
      refine post_eq ?_ (Below.refl _ _)
      simp only [Act.put, List.setIfInBounds_toArray, List.set_cons_zero, List.set_cons_succ]
      try rfl
    · simp only [Act.put, List.setIfInBounds_toArray, List.set_cons_zero, List.set_cons_succ]
      rfl
    apply obs_step
    · rfl
    · intro w9 hE9 hk
      have f := XC.out w9 hE9
      have f0 := f.1
      have f1 := f.2
      clear f
      clear hk hE9
      go_wp2
      refine post_eq ?_ (Below.refl _ _)
      simp only [Act.put, List.setIfInBounds_toArray, List.set_cons_zero, List.set_cons_succ]
      try rfl
    · simp only [Act.put, List.setIfInBounds_toArray, List.set_cons_zero, List.set_cons_succ]
      rfl
    apply obs_step
    · rfl
    · intro w9 hE9 hk
      clear hk hE9
      go_wp2
      refine post_eq ?_ (Below.refl _ _)
      simp only [Act.put, List.setIfInBounds_toArray, List.set_cons_zero, List.set_cons_succ]
      try rfl
    · simp only [Act.put, List.setIfInBounds_toArray, List.set_cons_zero, List.set_cons_succ]
      rfl
    apply obs_step
    · rfl
    · intro w9 hE9 hk
      clear hk hE9
      go_wp2_with fail
      refine (A1.out _).mono ?_
      rintro e w10 ⟨rfl, hb10⟩
      go_wp2
      refine post_eq ?_ hb10
      simp only [Act.put, List.setIfInBounds_toArray, List.set_cons_zero, List.set_cons_succ]
      try rfl
    · simp only [Act.put, List.setIfInBounds_toArray, List.set_cons_zero, List.set_cons_succ]
      rfl
    apply obs_step
    · rfl
    · intro w9 hE9 hk
      have f := XC.out w9 hE9
      have f0 := f.1
      have f1 := f.2
      clear f
      clear hk hE9
      go_wp2
      refine post_eq ?_ (Below.refl _ _)
      simp only [Act.put, List.setIfInBounds_toArray, List.set_cons_zero, List.set_cons_succ]
      try rfl
    · simp only [Act.put, List.setIfInBounds_toArray, List.set_cons_zero, List.set_cons_succ]
      rfl
    apply obs_step
    · rfl
    · intro w9 hE9 hk
      clear hk hE9
      go_wp2_with (refine wp_page_eql _ _ _ rfl rfl _ _ _ _ rfl rfl ?_)
      try rw [eT]
      refine post_eq ?_ (Below.refl _ _)
      simp only [Act.put, List.setIfInBounds_toArray, List.set_cons_zero, List.set_cons_succ]
      try rfl
    · simp only [Act.put, List.setIfInBounds_toArray, List.set_cons_zero, List.set_cons_succ]
      rfl
    apply obs_step
    · rfl
    · intro w9 hE9 hk
      clear hk hE9
      go_wp2
      refine post_eq ?_ (Below.refl _ _)
      simp only [Act.put, List.setIfInBounds_toArray, List.set_cons_zero, List.set_cons_succ]
      try rfl
    · simp only [Act.put, List.setIfInBounds_toArray, List.set_cons_zero, List.set_cons_succ]
      rfl
    apply obs_step
    · rfl
    · intro w9 hE9 hk
      clear hk hE9
      go_wp2
      refine post_eq ?_ (Below.refl _ _)
      simp only [Act.put, List.setIfInBounds_toArray, List.set_cons_zero, List.set_cons_succ]
      try rfl
    · simp only [Act.put, List.setIfInBounds_toArray, List.set_cons_zero, List.set_cons_succ]
      rfl
    apply obs_step
    · rfl
    · intro w9 hE9 hk
      clear hk hE9
      go_wp2_with fail
      refine (E0.out _).mono ?_
      rintro e w10 ⟨rfl, hb10⟩
      go_wp2
      refine post_eq ?_ hb10
      simp only [Act.put, List.setIfInBounds_toArray, List.set_cons_zero, List.set_cons_succ]
      try rfl
    · simp only [Act.put, List.setIfInBounds_toArray, List.set_cons_zero, List.set_cons_succ]
      rfl
    apply obs_step
    · rfl
    · intro w9 hE9 hk
      clear hk hE9
      go_wp2
      refine post_eq ?_ (Below.refl _ _)
      simp only [Act.put, List.setIfInBounds_toArray, List.set_cons_zero, List.set_cons_succ]
      try rfl
    · simp only [Act.put, List.setIfInBounds_toArray, List.set_cons_zero, List.set_cons_succ]
      rfl
    apply obs_step
    · rfl
    · intro w9 hE9 hk
      clear hk hE9
      go_wp2
      refine post_eq ?_ (Below.refl _ _)
      simp only [Act.put, List.setIfInBounds_toArray, List.set_cons_zero, List.set_cons_succ]
      try rfl
    · simp only [Act.put, List.setIfInBounds_toArray, List.set_cons_zero, List.set_cons_succ]
      rfl
    apply obs_step
    · rfl
    · intro w9 hE9 hk
      clear hk hE9
      go_wp2
      refine post_eq ?_ (Below.refl _ _)
      simp only [Act.put, List.setIfInBounds_toArray, List.set_cons_zero, List.set_cons_succ]
      try rfl
    · simp only [Act.put, List.setIfInBounds_toArray, List.set_cons_zero, List.set_cons_succ]
      rfl
    apply obs_step
    · rfl
    · intro w9 hE9 hk
      clear hk hE9
      go_wp2
      refine post_eq ?_ (Below.refl _ _)
      simp only [Act.put, List.setIfInBounds_toArray, List.set_cons_zero, List.set_cons_succ]
      try rfl
    · simp only [Act.put, List.setIfInBounds_toArray, List.set_cons_zero, List.set_cons_succ]
      rfl
    refine obs_end fun w9 hE9 _ => ?_
    have hB9 := HB.out.drew.trans (hE9.mono HB.out.size)
    clear hE9 XC HB
    go_wp2
    go_ret
    exact ⟨rfl, hB9⟩
end Go.Proofs.Ytjnnkbbgeckgkaa
