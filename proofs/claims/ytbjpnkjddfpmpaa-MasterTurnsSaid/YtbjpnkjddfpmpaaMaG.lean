/- Package master: Read. -/
import Derived.Test.YtbjpnkjddfpmpaaMaF
namespace Go.Proofs.Ytbjpnkjddfpmpaa
open Go.RowKit

section
variable {w : World} {F : Foot} {g : Nat} {D : Dk}
set_option maxRecDepth 100000 in
set_option maxHeartbeats 4000000 in
theorem maRead_there (h : IsDisk w F g D) (b : Int) (hf : Cd.fits D b) (hg : D.gone = false) (o0 o1 : Option (Nat × Ms)) (h0 : cdM.dec (D.at_ b) = o0) (h1 : cdM.dec (D.at_ (b + 1)) = o1) :
    Calls Try.prog 10 #[.pointer (some ⟨g, 0, none⟩), .int .i64 b] w fun e w' => e = .returned (.tuple #[.agg #[.int .i64 (best o0 o1).2.check, .int .i64 (best o0 o1).2.low], .int .u32 (best o0 o1).1, .int .i64 0]) ∧ Below w.heap.size w w' := by
  obtain ⟨r0, r1, _⟩ := rd_there hf hg
  have HH : Hid (∀ W, Below w.heap.size w W → _) := fun W hW => maHas_any (h.below hW) b true (by simp [hf])
  have HD : Hid (∀ W, Below w.heap.size w W → _) := fun W hW => dead_any (h.below hW)
  rw [hg] at HD
  have H0 : Hid (∀ W, Below w.heap.size w W → _) := fun W hW => maFind_any (h.below hW) b r0
  have H1 : Hid (∀ W, Below w.heap.size w W → _) := fun W hW => maFind_any (h.below hW) (b + 1) r1
  rw [h0] at H0
  rw [h1] at H1
  have b0 : 0 ≤ b := hf.1
  have b5 : b ≤ 512 := by have := hf.2; have := h.1.le; omega
  clear h hf hg r0 r1 h0 h1
  have R0 := Blk.new w 30 #[.int .i64 0, .int .i64 0]
  have B0 := (Below.refl w.heap.size w).alloc (Nat.le_refl _) (.cells #[.int .i64 0, .int .i64 0] 30)
  have R1 := Lib.hid (R0.setRow #[.int .i64 0, .int .i64 1])
  have B1 := Lib.hid (below_setRow B0 (Nat.le_refl _) #[.int .i64 0, .int .i64 1])
  go_enter Try.func10, Try.ntmps10
  go_wp2_with fail
  refine (HH.out _ B0).mono ?_
  rintro e w1 ⟨rfl, rfl⟩
  go_wp2_with fail
  refine (HD.out _ B0).mono ?_
  rintro e w1 ⟨rfl, rfl⟩
  clear HH HD B0
  go_wp2_with (refine wpList_store_row rfl 30 _ _ rfl w.heap.size _ rfl rfl 30 _ R0 (by kernel_rfl) (by simp) (by simp [Value.oneCell']) ?_)
  clear R0
  generalize (w.alloc (.cells #[.int .i64 0, .int .i64 0] 30)).setRow w.heap.size #[.int .i64 0, .int .i64 1] = w1 at *
  refine wp_loop_rounds 3 ?_
  cases o0 with
  | none =>
    rw [rounds_succ]
    go_wp2_with fail
    refine (H0.out _ B1.out).mono ?_
    rintro e wa0 ⟨he, hb2⟩
    simp only [foundV] at he
    subst he
    have R2 := Lib.hid ((R1.out.keep hb2 R1.out.lt).alloc (.cells #[.int .i64 0, .int .i64 0] 30))
    have B2 := Lib.hid ((below2 B1.out hb2).alloc ((below2 B1.out hb2).size) (.cells #[.int .i64 0, .int .i64 0] 30))
    clear R1 B1 hb2 H0
    have R1 := R2
    have B1 := B2
    clear R2 B2
    go_wp2_with fail
    generalize wa0.alloc (.cells #[.int .i64 0, .int .i64 0] 30) = wb0 at *
    cases o1 with
    | none =>
      rw [rounds_succ]
      go_wp2_with fail
      refine (H1.out _ B1.out).mono ?_
      rintro e wa1 ⟨he, hb2⟩
      simp only [foundV] at he
      subst he
      have R2 := Lib.hid ((R1.out.keep hb2 R1.out.lt).alloc (.cells #[.int .i64 0, .int .i64 0] 30))
      have B2 := Lib.hid ((below2 B1.out hb2).alloc ((below2 B1.out hb2).size) (.cells #[.int .i64 0, .int .i64 0] 30))
      clear R1 B1 hb2 H1
      have R1 := R2
      have B1 := B2
      clear R2 B2
      go_wp2_with fail
      generalize wa1.alloc (.cells #[.int .i64 0, .int .i64 0] 30) = wb1 at *
      rw [rounds_succ]
      have R2 := R1.out
      have B2 := B1.out
      clear R1 B1
      go_wp2_with (first
        | (refine wpList_load_row rfl 30 _ rfl w.heap.size rfl 30 _ (0, 0) _ R2 Try.underlying30 rfl (by kernel_rfl) ?_)
        | (refine wpList_store_row rfl 30 _ _ rfl w.heap.size _ rfl rfl 30 _ R2 (by kernel_rfl) (by simp) (by simp [Value.oneCell']) ?_))
      exact bodyPost_ret (results_ctt12 rfl _ _ w.heap.size 30 _ _ rfl (R2.setRow _) Try.underlying30 rfl (by kernel_rfl)) rfl ⟨rfl, below_setRow B2 (Nat.le_refl _) _⟩
    | some y =>
      obtain ⟨t1, m1⟩ := y
      rw [rounds_succ]
      go_wp2_with fail
      refine (H1.out _ B1.out).mono ?_
      rintro e wa1 ⟨he, hb2⟩
      simp only [foundV] at he
      subst he
      have X2 := Blk.new wa1 30 #[.int .i64 m1.check, .int .i64 m1.low]
      have Y2 := (R1.out.keep hb2 R1.out.lt).alloc (.cells #[.int .i64 m1.check, .int .i64 m1.low] 30)
      have R2 := Lib.hid (Y2.setRow #[.int .i64 m1.check, .int .i64 m1.low])
      have B2 := Lib.hid (below_setRow ((below2 B1.out hb2).alloc ((below2 B1.out hb2).size) (.cells #[.int .i64 m1.check, .int .i64 m1.low] 30)) (Nat.le_refl _) #[.int .i64 m1.check, .int .i64 m1.low])
      clear R1 B1 hb2 H1
      have R1 := R2
      have B1 := B2
      clear R2 B2
      go_wp2_with (first
        | (refine wpList_load_row rfl 30 _ rfl wa1.heap.size rfl 30 _ (0, 0) _ X2 Try.underlying30 rfl (by kernel_rfl) ?_)
        | (refine wpList_store_row rfl 30 _ _ rfl w.heap.size _ rfl rfl 30 _ Y2 (by kernel_rfl) (by simp) (by simp [Value.oneCell']) ?_))
      clear X2 Y2
      generalize (wa1.alloc (.cells #[.int .i64 m1.check, .int .i64 m1.low] 30)).setRow w.heap.size #[.int .i64 m1.check, .int .i64 m1.low] = wb1 at *
      rw [rounds_succ]
      have R2 := R1.out
      have B2 := B1.out
      clear R1 B1
      go_wp2_with (first
        | (refine wpList_load_row rfl 30 _ rfl w.heap.size rfl 30 _ (0, 0) _ R2 Try.underlying30 rfl (by kernel_rfl) ?_)
        | (refine wpList_store_row rfl 30 _ _ rfl w.heap.size _ rfl rfl 30 _ R2 (by kernel_rfl) (by simp) (by simp [Value.oneCell']) ?_))
      exact bodyPost_ret (results_ctt12 rfl _ _ w.heap.size 30 _ _ rfl (R2.setRow _) Try.underlying30 rfl (by kernel_rfl)) rfl ⟨rfl, below_setRow B2 (Nat.le_refl _) _⟩
  | some x =>
    obtain ⟨t0, m0⟩ := x
    rw [rounds_succ]
    go_wp2_with fail
    refine (H0.out _ B1.out).mono ?_
    rintro e wa0 ⟨he, hb2⟩
    simp only [foundV] at he
    subst he
    have X2 := Blk.new wa0 30 #[.int .i64 m0.check, .int .i64 m0.low]
    have Y2 := (R1.out.keep hb2 R1.out.lt).alloc (.cells #[.int .i64 m0.check, .int .i64 m0.low] 30)
    have R2 := Lib.hid (Y2.setRow #[.int .i64 m0.check, .int .i64 m0.low])
    have B2 := Lib.hid (below_setRow ((below2 B1.out hb2).alloc ((below2 B1.out hb2).size) (.cells #[.int .i64 m0.check, .int .i64 m0.low] 30)) (Nat.le_refl _) #[.int .i64 m0.check, .int .i64 m0.low])
    clear R1 B1 hb2 H0
    have R1 := R2
    have B1 := B2
    clear R2 B2
    go_wp2_with (first
      | (refine wpList_load_row rfl 30 _ rfl wa0.heap.size rfl 30 _ (0, 0) _ X2 Try.underlying30 rfl (by kernel_rfl) ?_)
      | (refine wpList_store_row rfl 30 _ _ rfl w.heap.size _ rfl rfl 30 _ Y2 (by kernel_rfl) (by simp) (by simp [Value.oneCell']) ?_))
    clear X2 Y2
    generalize (wa0.alloc (.cells #[.int .i64 m0.check, .int .i64 m0.low] 30)).setRow w.heap.size #[.int .i64 m0.check, .int .i64 m0.low] = wb0 at *
    cases o1 with
    | none =>
      rw [rounds_succ]
      go_wp2_with fail
      refine (H1.out _ B1.out).mono ?_
      rintro e wa1 ⟨he, hb2⟩
      simp only [foundV] at he
      subst he
      have R2 := Lib.hid ((R1.out.keep hb2 R1.out.lt).alloc (.cells #[.int .i64 0, .int .i64 0] 30))
      have B2 := Lib.hid ((below2 B1.out hb2).alloc ((below2 B1.out hb2).size) (.cells #[.int .i64 0, .int .i64 0] 30))
      clear R1 B1 hb2 H1
      have R1 := R2
      have B1 := B2
      clear R2 B2
      go_wp2_with fail
      generalize wa1.alloc (.cells #[.int .i64 0, .int .i64 0] 30) = wb1 at *
      rw [rounds_succ]
      have R2 := R1.out
      have B2 := B1.out
      clear R1 B1
      go_wp2_with (first
        | (refine wpList_load_row rfl 30 _ rfl w.heap.size rfl 30 _ (0, 0) _ R2 Try.underlying30 rfl (by kernel_rfl) ?_)
        | (refine wpList_store_row rfl 30 _ _ rfl w.heap.size _ rfl rfl 30 _ R2 (by kernel_rfl) (by simp) (by simp [Value.oneCell']) ?_))
      exact bodyPost_ret (results_ctt12 rfl _ _ w.heap.size 30 _ _ rfl (R2.setRow _) Try.underlying30 rfl (by kernel_rfl)) rfl ⟨rfl, below_setRow B2 (Nat.le_refl _) _⟩
    | some y =>
      obtain ⟨t1, m1⟩ := y
      by_cases hlt : t0 < t1
      · have HE : Hid (best (some (t0, m0)) (some (t1, m1)) = (t1, m1)) := if_pos hlt
        rw [rounds_succ]
        go_wp2_with fail
        refine (H1.out _ B1.out).mono ?_
        rintro e wa1 ⟨he, hb2⟩
        simp only [foundV] at he
        subst he
        have X2 := Blk.new wa1 30 #[.int .i64 m1.check, .int .i64 m1.low]
        have Y2 := (R1.out.keep hb2 R1.out.lt).alloc (.cells #[.int .i64 m1.check, .int .i64 m1.low] 30)
        have R2 := Lib.hid (Y2.setRow #[.int .i64 m1.check, .int .i64 m1.low])
        have B2 := Lib.hid (below_setRow ((below2 B1.out hb2).alloc ((below2 B1.out hb2).size) (.cells #[.int .i64 m1.check, .int .i64 m1.low] 30)) (Nat.le_refl _) #[.int .i64 m1.check, .int .i64 m1.low])
        clear R1 B1 hb2 H1
        have R1 := R2
        have B1 := B2
        clear R2 B2
        go_wp2_with (first
          | (refine wpList_load_row rfl 30 _ rfl wa1.heap.size rfl 30 _ (0, 0) _ X2 Try.underlying30 rfl (by kernel_rfl) ?_)
          | (refine wpList_store_row rfl 30 _ _ rfl w.heap.size _ rfl rfl 30 _ Y2 (by kernel_rfl) (by simp) (by simp [Value.oneCell']) ?_))
        clear X2 Y2
        generalize (wa1.alloc (.cells #[.int .i64 m1.check, .int .i64 m1.low] 30)).setRow w.heap.size #[.int .i64 m1.check, .int .i64 m1.low] = wb1 at *
        rw [rounds_succ]
        have R2 := R1.out
        have B2 := B1.out
        clear R1 B1
        go_wp2_with (first
          | (refine wpList_load_row rfl 30 _ rfl w.heap.size rfl 30 _ (0, 0) _ R2 Try.underlying30 rfl (by kernel_rfl) ?_)
          | (refine wpList_store_row rfl 30 _ _ rfl w.heap.size _ rfl rfl 30 _ R2 (by kernel_rfl) (by simp) (by simp [Value.oneCell']) ?_))
        exact bodyPost_ret (results_ctt12 rfl _ _ w.heap.size 30 _ _ rfl (R2.setRow _) Try.underlying30 rfl (by kernel_rfl)) rfl ⟨by rw [HE.out]; rfl, below_setRow B2 (Nat.le_refl _) _⟩
      · have HE : Hid (best (some (t0, m0)) (some (t1, m1)) = (t0, m0)) := if_neg hlt
        rw [rounds_succ]
        go_wp2_with fail
        refine (H1.out _ B1.out).mono ?_
        rintro e wa1 ⟨he, hb2⟩
        simp only [foundV] at he
        subst he
        have R2 := Lib.hid ((R1.out.keep hb2 R1.out.lt).alloc (.cells #[.int .i64 m1.check, .int .i64 m1.low] 30))
        have B2 := Lib.hid ((below2 B1.out hb2).alloc ((below2 B1.out hb2).size) (.cells #[.int .i64 m1.check, .int .i64 m1.low] 30))
        clear R1 B1 hb2 H1
        have R1 := R2
        have B1 := B2
        clear R2 B2
        go_wp2_with fail
        generalize wa1.alloc (.cells #[.int .i64 m1.check, .int .i64 m1.low] 30) = wb1 at *
        rw [rounds_succ]
        have R2 := R1.out
        have B2 := B1.out
        clear R1 B1
        go_wp2_with (first
          | (refine wpList_load_row rfl 30 _ rfl w.heap.size rfl 30 _ (0, 0) _ R2 Try.underlying30 rfl (by kernel_rfl) ?_)
          | (refine wpList_store_row rfl 30 _ _ rfl w.heap.size _ rfl rfl 30 _ R2 (by kernel_rfl) (by simp) (by simp [Value.oneCell']) ?_))
        exact bodyPost_ret (results_ctt12 rfl _ _ w.heap.size 30 _ _ rfl (R2.setRow _) Try.underlying30 rfl (by kernel_rfl)) rfl ⟨by rw [HE.out]; rfl, below_setRow B2 (Nat.le_refl _) _⟩
set_option maxRecDepth 100000 in
set_option maxHeartbeats 4000000 in
theorem maRead_misfit (h : IsDisk w F g D) (b : Int) (hf : ¬ Cd.fits D b) :
    Calls Try.prog 10 #[.pointer (some ⟨g, 0, none⟩), .int .i64 b] w fun e w' => e = .returned (.tuple #[.agg #[.int .i64 0, .int .i64 0], .int .u32 0, .int .i64 1]) ∧ Below w.heap.size w w' := by
  have HH : Hid (∀ W, Below w.heap.size w W → _) := fun W hW => maHas_any (h.below hW) b false (by simp [hf])
  clear h hf
  have R0 := Blk.new w 30 #[.int .i64 0, .int .i64 0]
  have B0 := (Below.refl w.heap.size w).alloc (Nat.le_refl _) (.cells #[.int .i64 0, .int .i64 0] 30)
  go_enter Try.func10, Try.ntmps10
  go_wp2_with fail
  refine (HH.out _ B0).mono ?_
  rintro e w1 ⟨rfl, rfl⟩
  go_wp2_with (refine wpList_store_row rfl 30 _ _ rfl w.heap.size _ rfl rfl 30 _ R0 (by kernel_rfl) (by simp) (by simp [Value.oneCell']) ?_)
  exact bodyPost_ret (results_ctt12 rfl _ _ w.heap.size 30 _ _ rfl (R0.setRow _) Try.underlying30 rfl (by kernel_rfl)) rfl ⟨rfl, below_setRow B0 (Nat.le_refl _) _⟩
set_option maxRecDepth 100000 in
set_option maxHeartbeats 4000000 in
theorem maRead_gone (h : IsDisk w F g D) (b : Int) (hf : Cd.fits D b) (hg : D.gone = true) :
    Calls Try.prog 10 #[.pointer (some ⟨g, 0, none⟩), .int .i64 b] w fun e w' => e = .returned (.tuple #[.agg #[.int .i64 0, .int .i64 0], .int .u32 0, .int .i64 4]) ∧ Below w.heap.size w w' := by
  have HH : Hid (∀ W, Below w.heap.size w W → _) := fun W hW => maHas_any (h.below hW) b true (by simp [hf])
  have HD : Hid (∀ W, Below w.heap.size w W → _) := fun W hW => dead_any (h.below hW)
  rw [hg] at HD
  clear h hf hg
  have R0 := Blk.new w 30 #[.int .i64 0, .int .i64 0]
  have B0 := (Below.refl w.heap.size w).alloc (Nat.le_refl _) (.cells #[.int .i64 0, .int .i64 0] 30)
  go_enter Try.func10, Try.ntmps10
  go_wp2_with fail
  refine (HH.out _ B0).mono ?_
  rintro e w1 ⟨rfl, rfl⟩
  go_wp2_with fail
  refine (HD.out _ B0).mono ?_
  rintro e w1 ⟨rfl, rfl⟩
  go_wp2_with (refine wpList_store_row rfl 30 _ _ rfl w.heap.size _ rfl rfl 30 _ R0 (by kernel_rfl) (by simp) (by simp [Value.oneCell']) ?_)
  exact bodyPost_ret (results_ctt12 rfl _ _ w.heap.size 30 _ _ rfl (R0.setRow _) Try.underlying30 rfl (by kernel_rfl)) rfl ⟨rfl, below_setRow B0 (Nat.le_refl _) _⟩
set_option maxRecDepth 100000 in
set_option maxHeartbeats 4000000 in
theorem maRead_nil (b : Int) (w : World) :
    Calls Try.prog 10 #[.pointer none, .int .i64 b] w fun e w' => e = .returned (.tuple #[.agg #[.int .i64 0, .int .i64 0], .int .u32 0, .int .i64 10]) ∧ Below w.heap.size w w' := by
  have R0 := Blk.new w 30 #[.int .i64 0, .int .i64 0]
  have B0 := (Below.refl w.heap.size w).alloc (Nat.le_refl _) (.cells #[.int .i64 0, .int .i64 0] 30)
  go_enter Try.func10, Try.ntmps10
  go_wp2_with (refine wpList_store_row rfl 30 _ _ rfl w.heap.size _ rfl rfl 30 _ R0 (by kernel_rfl) (by simp) (by simp [Value.oneCell']) ?_)
  exact bodyPost_ret (results_ctt12 rfl _ _ w.heap.size 30 _ _ rfl (R0.setRow _) Try.underlying30 rfl (by kernel_rfl)) rfl ⟨rfl, below_setRow B0 (Nat.le_refl _) _⟩
theorem maRead_any (h : IsDisk w F g D) (b : Int) :
    Calls Try.prog 10 #[.pointer (some ⟨g, 0, none⟩), .int .i64 b] w fun e w' => e = .returned (.tuple #[.agg #[.int .i64 (cdM.read D b).2.check, .int .i64 (cdM.read D b).2.low], .int .u32 (cdM.read D b).1, .int .i64 (Cd.readE D b)]) ∧ Below w.heap.size w w' := by
  by_cases hf : Cd.fits D b
  · cases hg : D.gone with
    | true =>
      have hr := (rd_gone hf hg).2.2
      have hx : cdM.read D b = (0, ⟨0, 0⟩) := if_neg (by rw [hr]; decide)
      rw [hr, hx]
      exact maRead_gone h b hf hg
    | false =>
      have hr := (rd_there hf hg).2.2.1
      have hx : cdM.read D b = best (cdM.dec (D.at_ b)) (cdM.dec (D.at_ (b + 1))) := if_pos hr
      rw [hr, hx]
      exact maRead_there h b hf hg _ _ rfl rfl
  · have hr : Cd.readE D b = 1 := if_neg hf
    have hx : cdM.read D b = (0, ⟨0, 0⟩) := if_neg (by rw [hr]; decide)
    rw [hr, hx]
    exact maRead_misfit h b hf
end
end Go.Proofs.Ytbjpnkjddfpmpaa
