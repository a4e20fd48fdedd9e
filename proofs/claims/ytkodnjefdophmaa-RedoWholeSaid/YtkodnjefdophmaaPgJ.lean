/- The document's own Apply (careenref06). -/
import Derived.Test.YtkodnjefdophmaaPgI
namespace Go.Proofs.Ytkodnjefdophmaa
open Go.RowKit

set_option maxRecDepth 100000
section
variable {w : World} {v : Value} {r : Rc} (a x : Int) (d : ByteArray)
set_option maxHeartbeats 8000000 in
theorem pgRefApply_form (hv : IsRec w v r) (h : ¬ PgOk a d) :
    Calls Try.prog 18 #[.agg #[.int .i64 a, .string d], .int .i64 x, v] w fun e w' => e = .returned (.agg #[.int .i64 a, .string d]) ∧ Below w.heap.size w w' := by
  have P := Lib.hid (fun W => pgRefRight_any a d W false (by simp [h]))
  clear h
  obtain ⟨vt, vp, rfl, hl⟩ := hv
  obtain ⟨ta, tc, e⟩ := hl.t.form
  subst e
  obtain ⟨pa, pc, e⟩ := hl.p.form
  subst e
  clear hl
  unfold recV recCells at *
  go_enter Try.func18, Try.ntmps18
  go_wp2_with fail
  have X0 := ((Blk.new w 30 #[.int .i64 a, .string d]).alloc (.cells #[.int .i64 r.kind, .int .i64 r.txn, .int .i64 r.page, .int .i64 r.off, .int .i64 r.prev, .int .i64 r.next, .int .i64 r.beg, .string r.before, .string r.after, .slice ta r.txns.length tc, .slice pa r.pages.length pc] 37)).alloc (.cells #[.int .i64 0, .string ⟨#[]⟩] 30)
  have Y0 := (Blk.new (w.alloc (.cells #[.int .i64 a, .string d] 30)) 37 #[.int .i64 r.kind, .int .i64 r.txn, .int .i64 r.page, .int .i64 r.off, .int .i64 r.prev, .int .i64 r.next, .int .i64 r.beg, .string r.before, .string r.after, .slice ta r.txns.length tc, .slice pa r.pages.length pc]).alloc (.cells #[.int .i64 0, .string ⟨#[]⟩] 30)
  have R0 := Blk.new ((w.alloc (.cells #[.int .i64 a, .string d] 30)).alloc (.cells #[.int .i64 r.kind, .int .i64 r.txn, .int .i64 r.page, .int .i64 r.off, .int .i64 r.prev, .int .i64 r.next, .int .i64 r.beg, .string r.before, .string r.after, .slice ta r.txns.length tc, .slice pa r.pages.length pc] 37)) 30 #[.int .i64 0, .string ⟨#[]⟩]
  simp only [World.size_alloc] at R0 Y0
  have hB := (((Below.refl w.heap.size w).alloc (Nat.le_refl _) (.cells #[.int .i64 a, .string d] 30)).alloc (by simp) (.cells #[.int .i64 r.kind, .int .i64 r.txn, .int .i64 r.page, .int .i64 r.off, .int .i64 r.prev, .int .i64 r.next, .int .i64 r.beg, .string r.before, .string r.after, .slice ta r.txns.length tc, .slice pa r.pages.length pc] 37)).alloc (by simp; omega) (.cells #[.int .i64 0, .string ⟨#[]⟩] 30)
  generalize ((w.alloc (.cells #[.int .i64 a, .string d] 30)).alloc _).alloc (.cells #[.int .i64 0, .string ⟨#[]⟩] 30) = w1 at *
  refine (P.out _).mono ?_
  rintro e w2 ⟨rfl, hb⟩
  have R2 := R0.keep hb R0.lt
  have X2 := X0.keep hb X0.lt
  have Y2 := Y0.keep hb Y0.lt
  replace hB := hB.trans (hb.mono hB.size)
  clear R0 X0 Y0 hb P
  have c0 := X2.cellAt (i := 0) (by simp)
  have c1 := X2.cellAt (i := 1) (by simp)
  have b0 := Y2.cellAt (i := 0) (by simp)
  have b3 := Y2.cellAt (i := 3) (by simp)
  have b8 := Y2.cellAt (i := 8) (by simp)
  simp at c0 c1 b0 b3 b8
  go_wp2_with (refine wpList_store_row rfl 30 _ _ rfl (w.heap.size + 1 + 1) _ rfl rfl 30 _ R2 (by kernel_rfl) (by simp) (by simp [Value.oneCell']) ?_)
  exact bodyPost_ret (results_cell_row rfl _ _ (w.heap.size + 1 + 1) 30 _ (0, 0) _ rfl (R2.setRow _) Try.underlying30 rfl (by kernel_rfl)) rfl ⟨rfl, below_setRow hB (by omega) _⟩

set_option maxHeartbeats 8000000 in
theorem pgRefApply_kind (hv : IsRec w v r) (h : PgOk a d) (hc : ¬ Chg r) :
    Calls Try.prog 18 #[.agg #[.int .i64 a, .string d], .int .i64 x, v] w fun e w' => e = .returned (.agg #[.int .i64 a, .string d]) ∧ Below w.heap.size w w' := by
  have P := Lib.hid (fun W => pgRefRight_any a d W true (by simp [h]))
  have k1 : (r.kind != 1) = true := by simp; exact fun h1 => hc (.inl h1)
  have k2 : (r.kind != 2) = true := by simp; exact fun h1 => hc (.inr h1)
  clear h hc
  obtain ⟨vt, vp, rfl, hl⟩ := hv
  obtain ⟨ta, tc, e⟩ := hl.t.form
  subst e
  obtain ⟨pa, pc, e⟩ := hl.p.form
  subst e
  clear hl
  unfold recV recCells at *
  go_enter Try.func18, Try.ntmps18
  go_wp2_with fail
  have X0 := ((Blk.new w 30 #[.int .i64 a, .string d]).alloc (.cells #[.int .i64 r.kind, .int .i64 r.txn, .int .i64 r.page, .int .i64 r.off, .int .i64 r.prev, .int .i64 r.next, .int .i64 r.beg, .string r.before, .string r.after, .slice ta r.txns.length tc, .slice pa r.pages.length pc] 37)).alloc (.cells #[.int .i64 0, .string ⟨#[]⟩] 30)
  have Y0 := (Blk.new (w.alloc (.cells #[.int .i64 a, .string d] 30)) 37 #[.int .i64 r.kind, .int .i64 r.txn, .int .i64 r.page, .int .i64 r.off, .int .i64 r.prev, .int .i64 r.next, .int .i64 r.beg, .string r.before, .string r.after, .slice ta r.txns.length tc, .slice pa r.pages.length pc]).alloc (.cells #[.int .i64 0, .string ⟨#[]⟩] 30)
  have R0 := Blk.new ((w.alloc (.cells #[.int .i64 a, .string d] 30)).alloc (.cells #[.int .i64 r.kind, .int .i64 r.txn, .int .i64 r.page, .int .i64 r.off, .int .i64 r.prev, .int .i64 r.next, .int .i64 r.beg, .string r.before, .string r.after, .slice ta r.txns.length tc, .slice pa r.pages.length pc] 37)) 30 #[.int .i64 0, .string ⟨#[]⟩]
  simp only [World.size_alloc] at R0 Y0
  have hB := (((Below.refl w.heap.size w).alloc (Nat.le_refl _) (.cells #[.int .i64 a, .string d] 30)).alloc (by simp) (.cells #[.int .i64 r.kind, .int .i64 r.txn, .int .i64 r.page, .int .i64 r.off, .int .i64 r.prev, .int .i64 r.next, .int .i64 r.beg, .string r.before, .string r.after, .slice ta r.txns.length tc, .slice pa r.pages.length pc] 37)).alloc (by simp; omega) (.cells #[.int .i64 0, .string ⟨#[]⟩] 30)
  generalize ((w.alloc (.cells #[.int .i64 a, .string d] 30)).alloc _).alloc (.cells #[.int .i64 0, .string ⟨#[]⟩] 30) = w1 at *
  refine (P.out _).mono ?_
  rintro e w2 ⟨rfl, hb⟩
  have R2 := R0.keep hb R0.lt
  have X2 := X0.keep hb X0.lt
  have Y2 := Y0.keep hb Y0.lt
  replace hB := hB.trans (hb.mono hB.size)
  clear R0 X0 Y0 hb P
  have c0 := X2.cellAt (i := 0) (by simp)
  have c1 := X2.cellAt (i := 1) (by simp)
  have b0 := Y2.cellAt (i := 0) (by simp)
  have b3 := Y2.cellAt (i := 3) (by simp)
  have b8 := Y2.cellAt (i := 8) (by simp)
  simp at c0 c1 b0 b3 b8
  go_wp2_with (refine wpList_store_row rfl 30 _ _ rfl (w.heap.size + 1 + 1) _ rfl rfl 30 _ R2 (by kernel_rfl) (by simp) (by simp [Value.oneCell']) ?_)
  exact bodyPost_ret (results_cell_row rfl _ _ (w.heap.size + 1 + 1) 30 _ (0, 0) _ rfl (R2.setRow _) Try.underlying30 rfl (by kernel_rfl)) rfl ⟨rfl, below_setRow hB (by omega) _⟩

set_option maxHeartbeats 8000000 in
theorem pgRefApply_old (hv : IsRec w v r) (h : PgOk a d) (hc : Chg r) (hx : ¬ a < x) :
    Calls Try.prog 18 #[.agg #[.int .i64 a, .string d], .int .i64 x, v] w fun e w' => e = .returned (.agg #[.int .i64 a, .string d]) ∧ Below w.heap.size w w' := by
  have P := Lib.hid (fun W => pgRefRight_any a d W true (by simp [h]))
  have hx' : x ≤ a := by omega
  have hC := Lib.hid hc
  clear h hx hc
  obtain ⟨vt, vp, rfl, hl⟩ := hv
  obtain ⟨ta, tc, e⟩ := hl.t.form
  subst e
  obtain ⟨pa, pc, e⟩ := hl.p.form
  subst e
  clear hl
  unfold recV recCells at *
  go_enter Try.func18, Try.ntmps18
  go_wp2_with fail
  have X0 := ((Blk.new w 30 #[.int .i64 a, .string d]).alloc (.cells #[.int .i64 r.kind, .int .i64 r.txn, .int .i64 r.page, .int .i64 r.off, .int .i64 r.prev, .int .i64 r.next, .int .i64 r.beg, .string r.before, .string r.after, .slice ta r.txns.length tc, .slice pa r.pages.length pc] 37)).alloc (.cells #[.int .i64 0, .string ⟨#[]⟩] 30)
  have Y0 := (Blk.new (w.alloc (.cells #[.int .i64 a, .string d] 30)) 37 #[.int .i64 r.kind, .int .i64 r.txn, .int .i64 r.page, .int .i64 r.off, .int .i64 r.prev, .int .i64 r.next, .int .i64 r.beg, .string r.before, .string r.after, .slice ta r.txns.length tc, .slice pa r.pages.length pc]).alloc (.cells #[.int .i64 0, .string ⟨#[]⟩] 30)
  have R0 := Blk.new ((w.alloc (.cells #[.int .i64 a, .string d] 30)).alloc (.cells #[.int .i64 r.kind, .int .i64 r.txn, .int .i64 r.page, .int .i64 r.off, .int .i64 r.prev, .int .i64 r.next, .int .i64 r.beg, .string r.before, .string r.after, .slice ta r.txns.length tc, .slice pa r.pages.length pc] 37)) 30 #[.int .i64 0, .string ⟨#[]⟩]
  simp only [World.size_alloc] at R0 Y0
  have hB := (((Below.refl w.heap.size w).alloc (Nat.le_refl _) (.cells #[.int .i64 a, .string d] 30)).alloc (by simp) (.cells #[.int .i64 r.kind, .int .i64 r.txn, .int .i64 r.page, .int .i64 r.off, .int .i64 r.prev, .int .i64 r.next, .int .i64 r.beg, .string r.before, .string r.after, .slice ta r.txns.length tc, .slice pa r.pages.length pc] 37)).alloc (by simp; omega) (.cells #[.int .i64 0, .string ⟨#[]⟩] 30)
  generalize ((w.alloc (.cells #[.int .i64 a, .string d] 30)).alloc _).alloc (.cells #[.int .i64 0, .string ⟨#[]⟩] 30) = w1 at *
  refine (P.out _).mono ?_
  rintro e w2 ⟨rfl, hb⟩
  have R2 := R0.keep hb R0.lt
  have X2 := X0.keep hb X0.lt
  have Y2 := Y0.keep hb Y0.lt
  replace hB := hB.trans (hb.mono hB.size)
  clear R0 X0 Y0 hb P
  have c0 := X2.cellAt (i := 0) (by simp)
  have c1 := X2.cellAt (i := 1) (by simp)
  have b0 := Y2.cellAt (i := 0) (by simp)
  have b3 := Y2.cellAt (i := 3) (by simp)
  have b8 := Y2.cellAt (i := 8) (by simp)
  simp at c0 c1 b0 b3 b8
  rcases hC.out with k | k
  · have k1 : (r.kind != 1) = false := by simp [k]
    have k2 : (r.kind != 2) = true := by simp [k]
    clear k
    go_wp2_with (refine wpList_store_row rfl 30 _ _ rfl (w.heap.size + 1 + 1) _ rfl rfl 30 _ R2 (by kernel_rfl) (by simp) (by simp [Value.oneCell']) ?_)
    exact bodyPost_ret (results_cell_row rfl _ _ (w.heap.size + 1 + 1) 30 _ (0, 0) _ rfl (R2.setRow _) Try.underlying30 rfl (by kernel_rfl)) rfl ⟨rfl, below_setRow hB (by omega) _⟩
  · have k1 : (r.kind != 1) = true := by simp [k]
    have k2 : (r.kind != 2) = false := by simp [k]
    clear k
    go_wp2_with (refine wpList_store_row rfl 30 _ _ rfl (w.heap.size + 1 + 1) _ rfl rfl 30 _ R2 (by kernel_rfl) (by simp) (by simp [Value.oneCell']) ?_)
    exact bodyPost_ret (results_cell_row rfl _ _ (w.heap.size + 1 + 1) 30 _ (0, 0) _ rfl (R2.setRow _) Try.underlying30 rfl (by kernel_rfl)) rfl ⟨rfl, below_setRow hB (by omega) _⟩

set_option maxHeartbeats 8000000 in
theorem pgRefApply_go (hv : IsRec w v r) (h : PgOk a d) (hc : Chg r) (hx : a < x) (A : Int) (D : ByteArray) (E : Int) (hp : putR a d r.off r.after x = (A, D, E)) :
    Calls Try.prog 18 #[.agg #[.int .i64 a, .string d], .int .i64 x, v] w fun e w' => e = .returned (if E = 0 then .agg #[.int .i64 A, .string D] else .agg #[.int .i64 a, .string d]) ∧ Below w.heap.size w w' := by
  have P := Lib.hid (fun W => pgRefRight_any a d W true (by simp [h]))
  have PP := Lib.hid (fun W => pgRefPut_any a r.off x d r.after W)
  rw [hp] at PP
  have hC := Lib.hid hc
  clear h hp hc
  obtain ⟨vt, vp, rfl, hl⟩ := hv
  obtain ⟨ta, tc, e⟩ := hl.t.form
  subst e
  obtain ⟨pa, pc, e⟩ := hl.p.form
  subst e
  clear hl
  unfold recV recCells at *
  go_enter Try.func18, Try.ntmps18
  go_wp2_with fail
  have X0 := ((Blk.new w 30 #[.int .i64 a, .string d]).alloc (.cells #[.int .i64 r.kind, .int .i64 r.txn, .int .i64 r.page, .int .i64 r.off, .int .i64 r.prev, .int .i64 r.next, .int .i64 r.beg, .string r.before, .string r.after, .slice ta r.txns.length tc, .slice pa r.pages.length pc] 37)).alloc (.cells #[.int .i64 0, .string ⟨#[]⟩] 30)
  have Y0 := (Blk.new (w.alloc (.cells #[.int .i64 a, .string d] 30)) 37 #[.int .i64 r.kind, .int .i64 r.txn, .int .i64 r.page, .int .i64 r.off, .int .i64 r.prev, .int .i64 r.next, .int .i64 r.beg, .string r.before, .string r.after, .slice ta r.txns.length tc, .slice pa r.pages.length pc]).alloc (.cells #[.int .i64 0, .string ⟨#[]⟩] 30)
  have R0 := Blk.new ((w.alloc (.cells #[.int .i64 a, .string d] 30)).alloc (.cells #[.int .i64 r.kind, .int .i64 r.txn, .int .i64 r.page, .int .i64 r.off, .int .i64 r.prev, .int .i64 r.next, .int .i64 r.beg, .string r.before, .string r.after, .slice ta r.txns.length tc, .slice pa r.pages.length pc] 37)) 30 #[.int .i64 0, .string ⟨#[]⟩]
  simp only [World.size_alloc] at R0 Y0
  have hB := (((Below.refl w.heap.size w).alloc (Nat.le_refl _) (.cells #[.int .i64 a, .string d] 30)).alloc (by simp) (.cells #[.int .i64 r.kind, .int .i64 r.txn, .int .i64 r.page, .int .i64 r.off, .int .i64 r.prev, .int .i64 r.next, .int .i64 r.beg, .string r.before, .string r.after, .slice ta r.txns.length tc, .slice pa r.pages.length pc] 37)).alloc (by simp; omega) (.cells #[.int .i64 0, .string ⟨#[]⟩] 30)
  generalize ((w.alloc (.cells #[.int .i64 a, .string d] 30)).alloc _).alloc (.cells #[.int .i64 0, .string ⟨#[]⟩] 30) = w1 at *
  refine (P.out _).mono ?_
  rintro e w2 ⟨rfl, hb⟩
  have R2 := R0.keep hb R0.lt
  have X2 := X0.keep hb X0.lt
  have Y2 := Y0.keep hb Y0.lt
  replace hB := hB.trans (hb.mono hB.size)
  clear R0 X0 Y0 hb P
  have c0 := X2.cellAt (i := 0) (by simp)
  have c1 := X2.cellAt (i := 1) (by simp)
  have b0 := Y2.cellAt (i := 0) (by simp)
  have b3 := Y2.cellAt (i := 3) (by simp)
  have b8 := Y2.cellAt (i := 8) (by simp)
  simp at c0 c1 b0 b3 b8
  rcases hC.out with k | k
  · have k1 : (r.kind != 1) = false := by simp [k]
    have k2 : (r.kind != 2) = true := by simp [k]
    clear k
    go_wp2_with fail
    refine (PP.out _).mono ?_
    rintro e w5 ⟨rfl, hb⟩
    replace R2 := R2.keep hb R2.lt
    replace X2 := X2.keep hb X2.lt
    replace hB := hB.trans (hb.mono hB.size)
    clear Y2 hb PP c0 c1 b0 b3 b8 hx k1 k2
    have N0 := Blk.new w5 30 #[.int .i64 0, .string ⟨#[]⟩]
    have N1 := N0.setRow #[.int .i64 A, .string D]
    have R6 := (R2.alloc (.cells #[.int .i64 0, .string ⟨#[]⟩] 30)).farRow (k := w5.heap.size) (by have := R2.lt; omega) #[.int .i64 A, .string D]
    have X6 := (X2.alloc (.cells #[.int .i64 0, .string ⟨#[]⟩] 30)).farRow (k := w5.heap.size) (by have := X2.lt; omega) #[.int .i64 A, .string D]
    have hB6 := below_setRow (hB.alloc hB.size (.cells #[.int .i64 0, .string ⟨#[]⟩] 30)) (g := w5.heap.size) hB.size #[.int .i64 A, .string D]
    go_upto_region 4 with (refine wpList_store_row rfl 30 _ _ rfl w5.heap.size _ rfl rfl 30 _ N0 (by kernel_rfl) (by simp) (by simp [Value.oneCell']) ?_)
    clear N0 R2 X2 hB
    generalize (w5.alloc _).setRow _ _ = w6 at *
    generalize w5.heap.size = g at *
    by_cases hE : E = 0
    · have h1 : (E != 0) = false := by simp [hE]
      have n0 := N1.cellAt (i := 0) (by simp)
      have n1 := N1.cellAt (i := 1) (by simp)
      simp at n0 n1
      have HE := Lib.hid hE
      clear hE
      go_wp2_with (refine wpList_store_row rfl 30 _ _ rfl (w.heap.size + 1 + 1) _ rfl rfl 30 _ R6 (by kernel_rfl) (by simp) (by simp [Value.oneCell']) ?_)
      exact bodyPost_ret (results_cell_row rfl _ _ (w.heap.size + 1 + 1) 30 _ (0, 0) _ rfl (R6.setRow _) Try.underlying30 rfl (by kernel_rfl)) rfl ⟨by first | rfl | rw [if_pos HE.out], below_setRow hB6 (by omega) _⟩
    · have h1 : (E != 0) = true := by simp [hE]
      have c0 := X6.cellAt (i := 0) (by simp)
      have c1 := X6.cellAt (i := 1) (by simp)
      simp at c0 c1
      have HE := Lib.hid hE
      clear hE N1
      go_wp2_with (refine wpList_store_row rfl 30 _ _ rfl (w.heap.size + 1 + 1) _ rfl rfl 30 _ R6 (by kernel_rfl) (by simp) (by simp [Value.oneCell']) ?_)
      exact bodyPost_ret (results_cell_row rfl _ _ (w.heap.size + 1 + 1) 30 _ (0, 0) _ rfl (R6.setRow _) Try.underlying30 rfl (by kernel_rfl)) rfl ⟨by first | rfl | rw [if_neg HE.out], below_setRow hB6 (by omega) _⟩
  · have k1 : (r.kind != 1) = true := by simp [k]
    have k2 : (r.kind != 2) = false := by simp [k]
    clear k
    go_wp2_with fail
    refine (PP.out _).mono ?_
    rintro e w5 ⟨rfl, hb⟩
    replace R2 := R2.keep hb R2.lt
    replace X2 := X2.keep hb X2.lt
    replace hB := hB.trans (hb.mono hB.size)
    clear Y2 hb PP c0 c1 b0 b3 b8 hx k1 k2
    have N0 := Blk.new w5 30 #[.int .i64 0, .string ⟨#[]⟩]
    have N1 := N0.setRow #[.int .i64 A, .string D]
    have R6 := (R2.alloc (.cells #[.int .i64 0, .string ⟨#[]⟩] 30)).farRow (k := w5.heap.size) (by have := R2.lt; omega) #[.int .i64 A, .string D]
    have X6 := (X2.alloc (.cells #[.int .i64 0, .string ⟨#[]⟩] 30)).farRow (k := w5.heap.size) (by have := X2.lt; omega) #[.int .i64 A, .string D]
    have hB6 := below_setRow (hB.alloc hB.size (.cells #[.int .i64 0, .string ⟨#[]⟩] 30)) (g := w5.heap.size) hB.size #[.int .i64 A, .string D]
    go_upto_region 4 with (refine wpList_store_row rfl 30 _ _ rfl w5.heap.size _ rfl rfl 30 _ N0 (by kernel_rfl) (by simp) (by simp [Value.oneCell']) ?_)
    clear N0 R2 X2 hB
    generalize (w5.alloc _).setRow _ _ = w6 at *
    generalize w5.heap.size = g at *
    by_cases hE : E = 0
    · have h1 : (E != 0) = false := by simp [hE]
      have n0 := N1.cellAt (i := 0) (by simp)
      have n1 := N1.cellAt (i := 1) (by simp)
      simp at n0 n1
      have HE := Lib.hid hE
      clear hE
      go_wp2_with (refine wpList_store_row rfl 30 _ _ rfl (w.heap.size + 1 + 1) _ rfl rfl 30 _ R6 (by kernel_rfl) (by simp) (by simp [Value.oneCell']) ?_)
      exact bodyPost_ret (results_cell_row rfl _ _ (w.heap.size + 1 + 1) 30 _ (0, 0) _ rfl (R6.setRow _) Try.underlying30 rfl (by kernel_rfl)) rfl ⟨by first | rfl | rw [if_pos HE.out], below_setRow hB6 (by omega) _⟩
    · have h1 : (E != 0) = true := by simp [hE]
      have c0 := X6.cellAt (i := 0) (by simp)
      have c1 := X6.cellAt (i := 1) (by simp)
      simp at c0 c1
      have HE := Lib.hid hE
      clear hE N1
      go_wp2_with (refine wpList_store_row rfl 30 _ _ rfl (w.heap.size + 1 + 1) _ rfl rfl 30 _ R6 (by kernel_rfl) (by simp) (by simp [Value.oneCell']) ?_)
      exact bodyPost_ret (results_cell_row rfl _ _ (w.heap.size + 1 + 1) 30 _ (0, 0) _ rfl (R6.setRow _) Try.underlying30 rfl (by kernel_rfl)) rfl ⟨by first | rfl | rw [if_neg HE.out], below_setRow hB6 (by omega) _⟩

/-- The document's own Apply, as one answer: the program's. -/
theorem pgRefApply_any (hv : IsRec w v r) :
    Calls Try.prog 18 #[.agg #[.int .i64 a, .string d], .int .i64 x, v] w fun e w' => e = .returned (.agg #[.int .i64 (applyR a d x r).1, .string (applyR a d x r).2]) ∧ Below w.heap.size w w' := by
  by_cases h0 : PgOk a d
  · by_cases hc : Chg r
    · by_cases hx : a < x
      · refine (pgRefApply_go a x d hv h0 hc hx (putR a d r.off r.after x).1 (putR a d r.off r.after x).2.1 (putR a d r.off r.after x).2.2 rfl).mono ?_
        rintro e w' ⟨rfl, hb⟩
        refine ⟨?_, hb⟩
        unfold applyR
        by_cases hE : (putR a d r.off r.after x).2.2 = 0
        · rw [if_pos hE, if_pos ⟨hc, hx, hE⟩]
        · rw [if_neg hE, if_neg fun h' => hE h'.2.2]
      · have e : applyR a d x r = (a, d) := if_neg fun h' => hx h'.2.1
        rw [e]
        exact pgRefApply_old a x d hv h0 hc hx
    · have e : applyR a d x r = (a, d) := if_neg fun h' => hc h'.1
      rw [e]
      exact pgRefApply_kind a x d hv h0 hc
  · have e : applyR a d x r = (a, d) := if_neg fun h' => by
      have h2 := h'.2.2
      unfold putR at h2
      rw [if_neg h0] at h2
      cases h2
    rw [e]
    exact pgRefApply_form a x d hv h0
end
end Go.Proofs.Ytkodnjefdophmaa
