/- Package page: Apply. -/
import Derived.Test.YtkodnjefdophmaaPgF
namespace Go.Proofs.Ytkodnjefdophmaa
open Go.RowKit

/-- What a record at a place makes of a page. -/
def applyR (a : Int) (d : ByteArray) (x : Int) (r : Rc) : Int × ByteArray :=
  if Chg r ∧ a < x ∧ (putR a d r.off r.after x).2.2 = 0 then ((putR a d r.off r.after x).1, (putR a d r.off r.after x).2.1) else (a, d)

theorem applyR_cases (a : Int) (d : ByteArray) (x : Int) (r : Rc) : (applyR a d x r = (a, d)) ∨ (a < x ∧ (applyR a d x r).1 = x ∧ (PgOk a d → PgOk (applyR a d x r).1 (applyR a d x r).2)) := by
  by_cases h : Chg r ∧ a < x ∧ (putR a d r.off r.after x).2.2 = 0
  · refine .inr ⟨h.2.1, ?_⟩
    obtain ⟨h1, h2, h3, h4⟩ := putR_ok h.2.2
    have e : applyR a d x r = (x, putS d r.off.toNat r.after) := by
      unfold applyR
      rw [if_pos h, h4]
    rw [e]
    refine ⟨rfl, fun _ => ⟨h2, ?_⟩⟩
    obtain ⟨k1, k2, k3⟩ := h3
    rw [putS_size (by rw [h1.2]; omega)]
    exact h1.2
  · exact .inl (if_neg h)
theorem applyR_right {a : Int} {d : ByteArray} {x : Int} {r : Rc} (h : PgOk a d) : PgOk (applyR a d x r).1 (applyR a d x r).2 := by
  unfold applyR
  split
  · rename_i hc
    obtain ⟨_, _, hc⟩ := hc
    unfold putR at hc ⊢
    rw [if_pos h] at hc ⊢
    by_cases hx : Num x
    · rw [if_pos hx] at hc ⊢
      by_cases ho : InPage r.off r.after.size
      · rw [if_pos ho]
        refine ⟨hx, ?_⟩
        have := ho.1
        have := ho.2.2
        show (putS d r.off.toNat r.after).size = 220
        rw [putS_size (by rw [h.2]; omega)]; exact h.2
      · rw [if_neg ho] at hc; cases hc
    · rw [if_neg hx] at hc; cases hc
  · exact h
theorem applyR_at (a : Int) (d : ByteArray) (x : Int) (r : Rc) : (applyR a d x r).1 = x ∨ applyR a d x r = (a, d) := by
  unfold applyR
  split
  · rename_i hc
    obtain ⟨_, _, hc⟩ := hc
    left
    unfold putR at hc ⊢
    split at hc
    · rename_i h1
      rw [if_pos h1]
      split at hc
      · rename_i h2
        rw [if_pos h2]
        split at hc
        · rename_i h3; rw [if_pos h3]
        · cases hc
      · cases hc
    · cases hc
  · exact .inr rfl

/-- The text that a record has behind it has a length. -/
def Sized' (r : Rc) : Prop := r.after.size ≤ maxLen

set_option maxRecDepth 100000 in
set_option maxHeartbeats 8000000 in
theorem pgApply_no {w : World} {v : Value} {r : Rc} (a x : Int) (d : ByteArray) (hv : IsRec w v r) (hd : d.size ≤ 500) (hn : ¬ (Chg r ∧ a < x)) :
    Calls Try.prog 29 #[.agg #[.int .i64 a, .string d], .int .i64 x, v] w fun e w' => e = .returned (.agg #[.int .i64 a, .string d]) ∧ Below w.heap.size w w' := by
  have hC := Lib.hid (fun W (hb : Below w.heap.size w W) yes => pgChanges_any (hv.keep hb) yes)
  obtain ⟨vt, vp, rfl, hl⟩ := hv
  obtain ⟨ta, tc, e⟩ := hl.t.form
  subst e
  obtain ⟨pa, pc, e⟩ := hl.p.form
  subst e
  clear hl
  have hN := Lib.hid hn
  clear hn
  have K := Lib.hid (fun W => cloneS_any d W (by omega))
  unfold recV recCells at *
  go_enter Try.func29, Try.ntmps29
  go_wp2_with fail
  have X0 := ((Blk.new w 30 #[.int .i64 a, .string d]).alloc (.cells #[.int .i64 r.kind, .int .i64 r.txn, .int .i64 r.page, .int .i64 r.off, .int .i64 r.prev, .int .i64 r.next, .int .i64 r.beg, .string r.before, .string r.after, .slice ta r.txns.length tc, .slice pa r.pages.length pc] 37)).alloc (.cells #[.int .i64 0, .string ⟨#[]⟩] 30)
  have R0 := Blk.new ((w.alloc (.cells #[.int .i64 a, .string d] 30)).alloc (.cells #[.int .i64 r.kind, .int .i64 r.txn, .int .i64 r.page, .int .i64 r.off, .int .i64 r.prev, .int .i64 r.next, .int .i64 r.beg, .string r.before, .string r.after, .slice ta r.txns.length tc, .slice pa r.pages.length pc] 37)) 30 #[.int .i64 0, .string ⟨#[]⟩]
  simp only [World.size_alloc] at R0
  have hB := (((Below.refl w.heap.size w).alloc (Nat.le_refl _) (.cells #[.int .i64 a, .string d] 30)).alloc (by simp) (.cells #[.int .i64 r.kind, .int .i64 r.txn, .int .i64 r.page, .int .i64 r.off, .int .i64 r.prev, .int .i64 r.next, .int .i64 r.beg, .string r.before, .string r.after, .slice ta r.txns.length tc, .slice pa r.pages.length pc] 37)).alloc (by simp; omega) (.cells #[.int .i64 0, .string ⟨#[]⟩] 30)
  generalize ((w.alloc (.cells #[.int .i64 a, .string d] 30)).alloc _).alloc (.cells #[.int .i64 0, .string ⟨#[]⟩] 30) = w1 at *
  refine (hC.out _ hB (decide (Chg r)) rfl).mono ?_
  rintro e w2 ⟨rfl, hb⟩
  have R2 := R0.keep hb R0.lt
  have X2 := X0.keep hb X0.lt
  replace hB := hB.trans (hb.mono hB.size)
  clear R0 X0 hb hC
  have c0 := X2.cellAt (i := 0) (by simp)
  have c1 := X2.cellAt (i := 1) (by simp)
  simp at c0 c1
  by_cases h1 : Chg r
  · rw [decide_eq_true h1]
    have h2 : ¬ a < x := fun h => hN.out ⟨h1, h⟩
    clear h1 hN
    go_wp2_with fail
    refine (K.out _).mono ?_
    rintro e w3 ⟨rfl, hb⟩
    have R3 := R2.keep hb R2.lt
    have X3 := X2.keep hb X2.lt
    have hB3 := hB.trans (hb.mono hB.size)
    clear R2 X2 hb c0 c1 hB K
    have e1 := X3.cellAt (i := 1) (by simp)
    have f1 := X3.frozen 1
    have X4 := X3.set 1 (.string d)
    simp at e1 X4
    have d0 := X4.cellAt (i := 0) (by simp)
    have d1 := X4.cellAt (i := 1) (by simp)
    simp at d0 d1
    have R4 := R3.far (p := ⟨w.heap.size, 1, none⟩) (by show w.heap.size + 1 + 1 ≠ w.heap.size; omega) (.string d)
    have hB4 := hB3.setCell (p := ⟨w.heap.size, 1, none⟩) (Nat.le_refl _) (.string d)
    clear X3 R3 hB3
    go_wp2_with (refine wpList_store_row rfl 30 _ _ rfl (w.heap.size + 1 + 1) _ rfl rfl 30 _ R4 (by kernel_rfl) (by simp) (by simp [Value.oneCell']) ?_)
    exact bodyPost_ret (results_cell_row rfl _ _ (w.heap.size + 1 + 1) 30 _ (0, 0) _ rfl (R4.setRow _) Try.underlying30 rfl (by kernel_rfl)) rfl ⟨rfl, below_setRow hB4 (by omega) _⟩
  · rw [decide_eq_false h1]
    clear h1 hN
    go_wp2_with fail
    refine (K.out _).mono ?_
    rintro e w3 ⟨rfl, hb⟩
    have R3 := R2.keep hb R2.lt
    have X3 := X2.keep hb X2.lt
    have hB3 := hB.trans (hb.mono hB.size)
    clear R2 X2 hb c0 c1 hB K
    have e1 := X3.cellAt (i := 1) (by simp)
    have f1 := X3.frozen 1
    have X4 := X3.set 1 (.string d)
    simp at e1 X4
    have d0 := X4.cellAt (i := 0) (by simp)
    have d1 := X4.cellAt (i := 1) (by simp)
    simp at d0 d1
    have R4 := R3.far (p := ⟨w.heap.size, 1, none⟩) (by show w.heap.size + 1 + 1 ≠ w.heap.size; omega) (.string d)
    have hB4 := hB3.setCell (p := ⟨w.heap.size, 1, none⟩) (Nat.le_refl _) (.string d)
    clear X3 R3 hB3
    go_wp2_with (refine wpList_store_row rfl 30 _ _ rfl (w.heap.size + 1 + 1) _ rfl rfl 30 _ R4 (by kernel_rfl) (by simp) (by simp [Value.oneCell']) ?_)
    exact bodyPost_ret (results_cell_row rfl _ _ (w.heap.size + 1 + 1) 30 _ (0, 0) _ rfl (R4.setRow _) Try.underlying30 rfl (by kernel_rfl)) rfl ⟨rfl, below_setRow hB4 (by omega) _⟩

section
set_option maxRecDepth 100000
variable {w : World} {v : Value} {r : Rc} (a x : Int) (d : ByteArray)
set_option maxHeartbeats 8000000 in
theorem pgApply_go (hv : IsRec w v r) (hd : d.size ≤ 500) (hs : Sized' r) (hc : Chg r) (hx : a < x) (A : Int) (D : ByteArray) (E : Int) (hp : putR a d r.off r.after x = (A, D, E)) :
    Calls Try.prog 29 #[.agg #[.int .i64 a, .string d], .int .i64 x, v] w fun e w' => e = .returned (if E = 0 then .agg #[.int .i64 A, .string D] else .agg #[.int .i64 a, .string d]) ∧ Below w.heap.size w w' := by
  have hC := Lib.hid (fun W (hb : Below w.heap.size w W) => pgChanges_any (hv.keep hb) true (by simp [hc]))
  have P := Lib.hid (fun W => pgPut_any a r.off x d r.after W hs)
  rw [hp] at P
  obtain ⟨vt, vp, rfl, hl⟩ := hv
  obtain ⟨ta, tc, e⟩ := hl.t.form
  subst e
  obtain ⟨pa, pc, e⟩ := hl.p.form
  subst e
  clear hl hc hp
  have K := Lib.hid (fun W => cloneS_any d W (by omega))
  unfold recV recCells at *
  go_enter Try.func29, Try.ntmps29
  go_wp2_with fail
  have X0 := ((Blk.new w 30 #[.int .i64 a, .string d]).alloc (.cells #[.int .i64 r.kind, .int .i64 r.txn, .int .i64 r.page, .int .i64 r.off, .int .i64 r.prev, .int .i64 r.next, .int .i64 r.beg, .string r.before, .string r.after, .slice ta r.txns.length tc, .slice pa r.pages.length pc] 37)).alloc (.cells #[.int .i64 0, .string ⟨#[]⟩] 30)
  have Y0 := (Blk.new (w.alloc (.cells #[.int .i64 a, .string d] 30)) 37 #[.int .i64 r.kind, .int .i64 r.txn, .int .i64 r.page, .int .i64 r.off, .int .i64 r.prev, .int .i64 r.next, .int .i64 r.beg, .string r.before, .string r.after, .slice ta r.txns.length tc, .slice pa r.pages.length pc]).alloc (.cells #[.int .i64 0, .string ⟨#[]⟩] 30)
  have R0 := Blk.new ((w.alloc (.cells #[.int .i64 a, .string d] 30)).alloc (.cells #[.int .i64 r.kind, .int .i64 r.txn, .int .i64 r.page, .int .i64 r.off, .int .i64 r.prev, .int .i64 r.next, .int .i64 r.beg, .string r.before, .string r.after, .slice ta r.txns.length tc, .slice pa r.pages.length pc] 37)) 30 #[.int .i64 0, .string ⟨#[]⟩]
  simp only [World.size_alloc] at R0 Y0
  have hB := (((Below.refl w.heap.size w).alloc (Nat.le_refl _) (.cells #[.int .i64 a, .string d] 30)).alloc (by simp) (.cells #[.int .i64 r.kind, .int .i64 r.txn, .int .i64 r.page, .int .i64 r.off, .int .i64 r.prev, .int .i64 r.next, .int .i64 r.beg, .string r.before, .string r.after, .slice ta r.txns.length tc, .slice pa r.pages.length pc] 37)).alloc (by simp; omega) (.cells #[.int .i64 0, .string ⟨#[]⟩] 30)
  generalize ((w.alloc (.cells #[.int .i64 a, .string d] 30)).alloc _).alloc (.cells #[.int .i64 0, .string ⟨#[]⟩] 30) = w1 at *
  refine (hC.out _ hB).mono ?_
  rintro e w2 ⟨rfl, hb⟩
  have R2 := R0.keep hb R0.lt
  have X2 := X0.keep hb X0.lt
  have Y2 := Y0.keep hb Y0.lt
  replace hB := hB.trans (hb.mono hB.size)
  clear R0 X0 Y0 hb hC
  have c0 := X2.cellAt (i := 0) (by simp)
  have c1 := X2.cellAt (i := 1) (by simp)
  have b3 := Y2.cellAt (i := 3) (by simp)
  have b8 := Y2.cellAt (i := 8) (by simp)
  simp at c0 c1 b3 b8
  go_wp2_with fail
  refine (P.out _).mono ?_
  rintro e w5 ⟨rfl, hb⟩
  replace R2 := R2.keep hb R2.lt
  replace X2 := X2.keep hb X2.lt
  replace hB := hB.trans (hb.mono hB.size)
  clear Y2 hb P c0 c1 b3 b8 hx
  have N0 := Blk.new w5 30 #[.int .i64 0, .string ⟨#[]⟩]
  have N1 := N0.setRow #[.int .i64 A, .string D]
  have R6 := (R2.alloc (.cells #[.int .i64 0, .string ⟨#[]⟩] 30)).farRow (k := w5.heap.size) (by have := R2.lt; omega) #[.int .i64 A, .string D]
  have X6 := (X2.alloc (.cells #[.int .i64 0, .string ⟨#[]⟩] 30)).farRow (k := w5.heap.size) (by have := X2.lt; omega) #[.int .i64 A, .string D]
  have hB6 := below_setRow (hB.alloc hB.size (.cells #[.int .i64 0, .string ⟨#[]⟩] 30)) (g := w5.heap.size) hB.size #[.int .i64 A, .string D]
  go_upto_region 3 with (refine wpList_store_row rfl 30 _ _ rfl w5.heap.size _ rfl rfl 30 _ N0 (by kernel_rfl) (by simp) (by simp [Value.oneCell']) ?_)
  clear N0 R2 X2 hB
  generalize (w5.alloc _).setRow _ _ = w6 at *
  generalize w5.heap.size = g at *
  by_cases hE : E = 0
  · have h1 : (E == 0) = true := by simp [hE]
    have n0 := N1.cellAt (i := 0) (by simp)
    have n1 := N1.cellAt (i := 1) (by simp)
    simp at n0 n1
    have HE := Lib.hid hE
    clear hE K
    go_wp2_with (refine wpList_store_row rfl 30 _ _ rfl (w.heap.size + 1 + 1) _ rfl rfl 30 _ R6 (by kernel_rfl) (by simp) (by simp [Value.oneCell']) ?_)
    exact bodyPost_ret (results_cell_row rfl _ _ (w.heap.size + 1 + 1) 30 _ (0, 0) _ rfl (R6.setRow _) Try.underlying30 rfl (by kernel_rfl)) rfl ⟨by first | rfl | rw [if_pos HE.out], below_setRow hB6 (by omega) _⟩
  · have h1 : (E == 0) = false := by simp [hE]
    have c1 := X6.cellAt (i := 1) (by simp)
    simp at c1
    have HE := Lib.hid hE
    clear hE N1
    go_wp2_with fail
    refine (K.out _).mono ?_
    rintro e w7 ⟨rfl, hb⟩
    have R7 := R6.keep hb R6.lt
    have X7 := X6.keep hb X6.lt
    have hB7 := hB6.trans (hb.mono hB6.size)
    clear R6 X6 hb c1 hB6 K
    have e1 := X7.cellAt (i := 1) (by simp)
    have f1 := X7.frozen 1
    have X8 := X7.set 1 (.string d)
    simp at e1 X8
    have d0 := X8.cellAt (i := 0) (by simp)
    have d1 := X8.cellAt (i := 1) (by simp)
    simp at d0 d1
    have R8 := R7.far (p := ⟨w.heap.size, 1, none⟩) (by show w.heap.size + 1 + 1 ≠ w.heap.size; omega) (.string d)
    have hB8 := hB7.setCell (p := ⟨w.heap.size, 1, none⟩) (Nat.le_refl _) (.string d)
    clear X7 R7 hB7
    go_wp2_with (refine wpList_store_row rfl 30 _ _ rfl (w.heap.size + 1 + 1) _ rfl rfl 30 _ R8 (by kernel_rfl) (by simp) (by simp [Value.oneCell']) ?_)
    exact bodyPost_ret (results_cell_row rfl _ _ (w.heap.size + 1 + 1) 30 _ (0, 0) _ rfl (R8.setRow _) Try.underlying30 rfl (by kernel_rfl)) rfl ⟨by first | rfl | rw [if_neg HE.out], below_setRow hB8 (by omega) _⟩

/-- Apply, as one answer. -/
theorem pgApply_any (hv : IsRec w v r) (hd : d.size ≤ 500) (hs : Sized' r) :
    Calls Try.prog 29 #[.agg #[.int .i64 a, .string d], .int .i64 x, v] w fun e w' => e = .returned (.agg #[.int .i64 (applyR a d x r).1, .string (applyR a d x r).2]) ∧ Below w.heap.size w w' := by
  by_cases h : Chg r ∧ a < x
  · have hh := pgApply_go a x d hv hd hs h.1 h.2 (putR a d r.off r.after x).1 (putR a d r.off r.after x).2.1 (putR a d r.off r.after x).2.2 rfl
    refine hh.mono ?_
    rintro e w' ⟨rfl, hb⟩
    refine ⟨?_, hb⟩
    unfold applyR
    by_cases hE : (putR a d r.off r.after x).2.2 = 0
    · rw [if_pos hE, if_pos ⟨h.1, h.2, hE⟩]
    · rw [if_neg hE, if_neg fun h' => hE h'.2.2]
  · have e : applyR a d x r = (a, d) := if_neg fun h' => h ⟨h'.1, h'.2.1⟩
    rw [e]
    exact pgApply_no a x d hv hd h
end
end Go.Proofs.Ytkodnjefdophmaa
