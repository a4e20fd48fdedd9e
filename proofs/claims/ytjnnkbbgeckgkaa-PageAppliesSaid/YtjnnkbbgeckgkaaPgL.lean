/- Layer 6's statements: the walk of PageApplies. -/
import Derived.Test.YtjnnkbbgeckgkaaPgK
import Derived.Test.YtjnnkbbgeckgkaaPgJ
import Derived.Test.YtjnnkbbgeckgkaaFew
import Derived.Test.YtjnnkbbgeckgkaaLoadG
import Derived.Test.YtjnnkbbgeckgkaaOpenRec
namespace Go.Proofs.Ytjnnkbbgeckgkaa
open Go.RowKit

section
set_option maxRecDepth 100000
variable (a x : Int) (d : ByteArray) (v : Value) (r : Rc) (w : World)
set_option maxHeartbeats 8000000 in
theorem pageApplies_long (hv : IsRec w v r) (hl : (500 : Int) < d.size) : Calls Try.prog 5 #[.agg #[.int .i64 a, .string d], .int .i64 x, v] w fun e w' => e = .returned (.bool true) ∧ Below w.heap.size w w' := by
  have AW := Lib.hid awake_any
  obtain ⟨vt, vp, rfl, _⟩ := hv
  unfold recV
  go_enter Try.func5, Try.ntmps5
  go_wp2_with fail
  have X0 := (Blk.new w 23 #[.int .i64 a, .string d]).alloc (.cells (recCells r vt vp) 46)
  have hB := ((Below.refl w.heap.size w).alloc (Nat.le_refl _) (.cells #[.int .i64 a, .string d] 23)).alloc (by simp) (.cells (recCells r vt vp) 46)
  generalize ((w.alloc (.cells #[.int .i64 a, .string d] 23)).alloc _) = w1 at *
  refine (AW.out _).mono ?_
  rintro e w2 ⟨rfl, hb⟩
  replace X0 := X0.keep hb X0.lt
  replace hB := hB.trans (hb.mono hB.size)
  clear hb
  have c1 := X0.cellAt (i := 1) (by simp)
  simp at c1
  go_wp2_with fail
  refine (AW.out _).mono ?_
  rintro e w3 ⟨rfl, hb⟩
  replace hB := hB.trans (hb.mono hB.size)
  go_wp2
  go_ret
  exact ⟨rfl, hB⟩

set_option maxHeartbeats 16000000 in
theorem pageApplies_short (hv : IsRec w v r) (hs : Sized r) (hl : (d.size : Int) ≤ 500) : Calls Try.prog 5 #[.agg #[.int .i64 a, .string d], .int .i64 x, v] w fun e w' => e = .returned (.bool true) ∧ Below w.heap.size w w' := by
  have AW := Lib.hid awake_any
  have AP := Lib.hid (fun W v (h : IsRec W v r) => apply_any a x d h (by omega) hs.2)
  have AR := Lib.hid (fun W v (h : IsRec W v r) => refApply_any a x d h)
  have FY := Lib.hid (fun W v (h : IsRec W v r) (hf : Fit r) => few_yes h hf)
  have FN := Lib.hid (fun W v (h : IsRec W v r) (hf : ¬ Fit r) => few_no h hs hf)
  have eT : ((applyR a d x r).2.toList == (applyR a d x r).2.toList) = true := by simp
  generalize (applyR a d x r).1 = A at *
  generalize (applyR a d x r).2 = D at *
  have IR := Lib.hid (fun W (h : Below w.heap.size w W) => hv.keep h)
  obtain ⟨vt, vp, rfl, hll⟩ := hv
  obtain ⟨ta, tc, e⟩ := hll.t.form
  subst e
  obtain ⟨pa, pc, e⟩ := hll.p.form
  subst e
  clear hll
  unfold recV recCells at *
  go_enter Try.func5, Try.ntmps5
  go_wp2_with fail
  have X0 := (Blk.new w 23 #[.int .i64 a, .string d]).alloc (.cells #[.int .i64 r.kind, .int .i64 r.txn, .int .i64 r.page, .int .i64 r.off, .int .i64 r.prev, .int .i64 r.next, .int .i64 r.beg, .string r.before, .string r.after, .slice ta r.txns.length tc, .slice pa r.pages.length pc] 46)
  have Y0 := Blk.new (w.alloc (.cells #[.int .i64 a, .string d] 23)) 46 #[.int .i64 r.kind, .int .i64 r.txn, .int .i64 r.page, .int .i64 r.off, .int .i64 r.prev, .int .i64 r.next, .int .i64 r.beg, .string r.before, .string r.after, .slice ta r.txns.length tc, .slice pa r.pages.length pc]
  simp only [World.size_alloc] at Y0
  have hB := ((Below.refl w.heap.size w).alloc (Nat.le_refl _) (.cells #[.int .i64 a, .string d] 23)).alloc (by simp) (.cells #[.int .i64 r.kind, .int .i64 r.txn, .int .i64 r.page, .int .i64 r.off, .int .i64 r.prev, .int .i64 r.next, .int .i64 r.beg, .string r.before, .string r.after, .slice ta r.txns.length tc, .slice pa r.pages.length pc] 46)
  generalize ((w.alloc (.cells #[.int .i64 a, .string d] 23)).alloc _) = w1 at *
  refine (AW.out _).mono ?_
  rintro e w2 ⟨rfl, hb⟩
  replace X0 := X0.keep hb X0.lt
  replace Y0 := Y0.keep hb Y0.lt
  replace hB := hB.trans (hb.mono hB.size)
  clear hb
  have c1 := X0.cellAt (i := 1) (by simp)
  simp at c1
  have hR2 := IR.out w2 hB
  have t1 : decide ((500 : Int) < d.size) = false := by simp; omega
  clear hl
  by_cases hf : Fit r
  · have FY2 := Lib.hid (FY.out w2 _ hR2 hf)
    clear hR2 FY FN hf
    go_wp2_with (refine wpList_load_rowG rfl 46 _ rfl (w.heap.size + 1) rfl 46 _ (0, 0) _ Y0 Try.underlying46 rfl (by kernel_rfl) ?_)
    refine FY2.out.mono ?_
    rintro e w3 ⟨rfl, hb⟩
    replace X0 := X0.keep hb X0.lt
    replace Y0 := Y0.keep hb Y0.lt
    replace hB := hB.trans (hb.mono hB.size)
    clear hb c1 FY2 AW
    go_upto_region 3 with fail
    have HB := Lib.hid hB
    have XB : Hid (∀ W, Below w3.drew.heap.size w3.drew W → Blk W w.heap.size 23 #[.int .i64 a, .string d] ∧ Blk W (w.heap.size + 1) 46 #[.int .i64 r.kind, .int .i64 r.txn, .int .i64 r.page, .int .i64 r.off, .int .i64 r.prev, .int .i64 r.next, .int .i64 r.beg, .string r.before, .string r.after, .slice ta r.txns.length tc, .slice pa r.pages.length pc]) := fun W h => ⟨X0.drew.keep h X0.lt, Y0.drew.keep h Y0.lt⟩
    replace IR := Lib.hid (fun W (h : Below w3.drew.heap.size w3.drew W) => IR.out W (HB.out.drew.trans (h.mono HB.out.size)))
    clear X0 Y0 hB
    refine' wp_region_conf 9 (.is _ :: .is _ :: .is _ :: .is _ :: .is _ :: .is _ :: .is _ :: .is _ :: .is _ :: []) (by kernel_rfl) (by kernel_rfl) (by kernel_rfl) (by kernel_rfl) rfl ?main
    case main =>
      apply obs_step
      · rfl
      · intro w9 hE9 hk
        have X9 := (XB.out w9 hE9).1
        have Y9 := (XB.out w9 hE9).2
        have Q9 := IR.out w9 hE9
        clear hk hE9
        go_wp2_with (refine wpList_load_row rfl 23 _ rfl w.heap.size rfl 23 _ (0, 0) _ X9 Try.underlying23 rfl (by kernel_rfl) ?_)
        refine post_eq ?_ (Below.refl _ _)
        simp only [Act.put, List.setIfInBounds_toArray, List.set_cons_zero, List.set_cons_succ]
        try rfl
      · simp only [Act.put, List.setIfInBounds_toArray, List.set_cons_zero, List.set_cons_succ]
        rfl
      apply obs_step
      · rfl
      · intro w9 hE9 hk
        have X9 := (XB.out w9 hE9).1
        have Y9 := (XB.out w9 hE9).2
        have Q9 := IR.out w9 hE9
        clear hk hE9
        go_wp2
        refine post_eq ?_ (Below.refl _ _)
        simp only [Act.put, List.setIfInBounds_toArray, List.set_cons_zero, List.set_cons_succ]
        try rfl
      · simp only [Act.put, List.setIfInBounds_toArray, List.set_cons_zero, List.set_cons_succ]
        rfl
      apply obs_step
      · rfl
      · intro w9 hE9 hk
        have X9 := (XB.out w9 hE9).1
        have Y9 := (XB.out w9 hE9).2
        have Q9 := IR.out w9 hE9
        clear hk hE9
        go_wp2_with (refine wpList_load_row rfl 46 _ rfl (w.heap.size + 1) rfl 46 _ (0, 0) _ Y9 Try.underlying46 rfl (by kernel_rfl) ?_)
        refine post_eq ?_ (Below.refl _ _)
        simp only [Act.put, List.setIfInBounds_toArray, List.set_cons_zero, List.set_cons_succ]
        try rfl
      · simp only [Act.put, List.setIfInBounds_toArray, List.set_cons_zero, List.set_cons_succ]
        rfl
      apply obs_step
      · rfl
      · intro w9 hE9 hk
        have X9 := (XB.out w9 hE9).1
        have Y9 := (XB.out w9 hE9).2
        have Q9 := IR.out w9 hE9
        clear hk hE9
        go_wp2_with fail
        refine (AP.out _ _ Q9).mono ?_
        rintro e w10 ⟨rfl, hb10⟩
        go_wp2
        refine post_eq ?_ hb10
        simp only [Act.put, List.setIfInBounds_toArray, List.set_cons_zero, List.set_cons_succ]
        try rfl
      · simp only [Act.put, List.setIfInBounds_toArray, List.set_cons_zero, List.set_cons_succ]
        rfl
      apply obs_step
      · rfl
      · intro w9 hE9 hk
        have X9 := (XB.out w9 hE9).1
        have Y9 := (XB.out w9 hE9).2
        have Q9 := IR.out w9 hE9
        clear hk hE9
        go_wp2_with (refine wpList_load_row rfl 23 _ rfl w.heap.size rfl 23 _ (0, 0) _ X9 Try.underlying23 rfl (by kernel_rfl) ?_)
        refine post_eq ?_ (Below.refl _ _)
        simp only [Act.put, List.setIfInBounds_toArray, List.set_cons_zero, List.set_cons_succ]
        try rfl
      · simp only [Act.put, List.setIfInBounds_toArray, List.set_cons_zero, List.set_cons_succ]
        rfl
      apply obs_step
      · rfl
      · intro w9 hE9 hk
        have X9 := (XB.out w9 hE9).1
        have Y9 := (XB.out w9 hE9).2
        have Q9 := IR.out w9 hE9
        clear hk hE9
        go_wp2
        refine post_eq ?_ (Below.refl _ _)
        simp only [Act.put, List.setIfInBounds_toArray, List.set_cons_zero, List.set_cons_succ]
        try rfl
      · simp only [Act.put, List.setIfInBounds_toArray, List.set_cons_zero, List.set_cons_succ]
        rfl
      apply obs_step
      · rfl
      · intro w9 hE9 hk
        have X9 := (XB.out w9 hE9).1
        have Y9 := (XB.out w9 hE9).2
        have Q9 := IR.out w9 hE9
        clear hk hE9
        go_wp2_with (refine wpList_load_row rfl 46 _ rfl (w.heap.size + 1) rfl 46 _ (0, 0) _ Y9 Try.underlying46 rfl (by kernel_rfl) ?_)
        refine post_eq ?_ (Below.refl _ _)
        simp only [Act.put, List.setIfInBounds_toArray, List.set_cons_zero, List.set_cons_succ]
        try rfl
      · simp only [Act.put, List.setIfInBounds_toArray, List.set_cons_zero, List.set_cons_succ]
        rfl
      apply obs_step
      · rfl
      · intro w9 hE9 hk
        have X9 := (XB.out w9 hE9).1
        have Y9 := (XB.out w9 hE9).2
        have Q9 := IR.out w9 hE9
        clear hk hE9
        go_wp2_with fail
        refine (AR.out _ _ Q9).mono ?_
        rintro e w10 ⟨rfl, hb10⟩
        go_wp2
        refine post_eq ?_ hb10
        simp only [Act.put, List.setIfInBounds_toArray, List.set_cons_zero, List.set_cons_succ]
        try rfl
      · simp only [Act.put, List.setIfInBounds_toArray, List.set_cons_zero, List.set_cons_succ]
        rfl
      apply obs_step
      · rfl
      · intro w9 hE9 hk
        have X9 := (XB.out w9 hE9).1
        have Y9 := (XB.out w9 hE9).2
        have Q9 := IR.out w9 hE9
        clear hk hE9
        go_wp2_with (refine wp_page_eql _ _ _ rfl rfl _ _ _ _ rfl rfl ?_)
        try rw [eT]
        refine post_eq ?_ (Below.refl _ _)
        simp only [Act.put, List.setIfInBounds_toArray, List.set_cons_zero, List.set_cons_succ]
        try rfl
      · simp only [Act.put, List.setIfInBounds_toArray, List.set_cons_zero, List.set_cons_succ]
        rfl
      refine obs_end fun w9 hE9 _ => ?_
      have hB9 := HB.out.drew.trans (hE9.mono HB.out.size)
      clear hE9 XB HB IR
      go_wp2
      go_ret
      exact ⟨rfl, hB9⟩
  · have FN2 := Lib.hid (FN.out w2 _ hR2 hf)
    clear hR2 FY FN hf
    go_wp2_with (refine wpList_load_rowG rfl 46 _ rfl (w.heap.size + 1) rfl 46 _ (0, 0) _ Y0 Try.underlying46 rfl (by kernel_rfl) ?_)
    refine FN2.out.mono ?_
    rintro e w3 ⟨rfl, hb⟩
    replace hB := hB.trans (hb.mono hB.size)
    clear hb c1 FN2
    go_wp2_with fail
    refine (AW.out _).mono ?_
    rintro e w4 ⟨rfl, hb⟩
    replace hB := hB.trans (hb.mono hB.size)
    go_wp2
    go_ret
    exact ⟨rfl, hB⟩
end
theorem walkPageApplies (a : Int) (d : ByteArray) (x : Int) (v : Value) (r : Rc) (w : World) (_ : (Lit.int .i64 a).wf = true) (_ : d.size ≤ maxLen) (_ : (Lit.int .i64 x).wf = true) (hv : IsRec w v r) (hs : Sized r) : Calls Try.prog 5 #[.agg #[.int .i64 a, .string d], .int .i64 x, v] w fun e w' => e = .returned (.bool true) ∧ Below w.heap.size w w' := by
  by_cases hl : (500 : Int) < d.size
  · exact pageApplies_long a x d v r w hv hl
  · exact pageApplies_short a x d v r w hv hs (by omega)
end Go.Proofs.Ytjnnkbbgeckgkaa
