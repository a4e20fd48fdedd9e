/- Package redo: behind (a page behind one entry). -/
import Derived.Test.YtkodnjefdophmaaRdE
import Derived.Test.YtkodnjefdophmaaRdC
import Derived.Test.YtkodnjefdophmaaPgJ
import Derived.Test.YtkodnjefdophmaaChC
namespace Go.Proofs.Ytkodnjefdophmaa
open Go.RowKit

theorem threeBox (w : World) (a b c : Array Value) (ta tb tc : TypeId) : let w' := ((w.alloc (.cells a ta)).alloc (.cells b tb)).alloc (.cells c tc)
    Below w.heap.size w w' ∧ Blk w' w.heap.size ta a ∧ Blk w' (w.heap.size + 1) tb b ∧ Blk w' (w.heap.size + 1 + 1) tc c := by
  refine ⟨(((Below.refl _ _).alloc (Nat.le_refl _) _).alloc (by simp) _).alloc (by simp; omega) _, ((Blk.new w ta a).alloc _).alloc _, ?_, ?_⟩
  · have := (Blk.new (w.alloc (.cells a ta)) tb b).alloc (.cells c tc)
    rwa [World.size_alloc] at this
  · have := Blk.new ((w.alloc (.cells a ta)).alloc (.cells b tb)) tc c
    rwa [World.size_alloc, World.size_alloc] at this
section
set_option maxRecDepth 100000
set_option maxHeartbeats 8000000
theorem apP_wrong {a : Int} {d : ByteArray} (h : ¬ PgOk a d) (x : Int) (r : Rc) : Hs.apP (a, d) x r = (a, d) := if_neg fun k => h k.2.2.1
theorem rdBehind_any {w : World} (a : Int) (d : ByteArray) (x : Int) (r : Rc) (vt vp : Value) (hl : Lists w r vt vp) (hs : r.after.size ≤ maxLen) :
    Calls Try.prog 22 #[.agg #[.int .i64 a, .string d], entV x r vt vp] w fun e w' => e = .returned (.agg #[.int .i64 (Hs.apP (a, d) x r).1, .string (Hs.apP (a, d) x r).2]) ∧ Below w.heap.size w w' := by
  have RT := Lib.hid (fun W => pgRight_any (w := W) (a := a) (d := d) _ rfl)
  obtain ⟨ta, tc, rfl⟩ := hl.t.form
  obtain ⟨pa, pc, rfl⟩ := hl.p.form
  obtain ⟨hB, X0, E0, R0⟩ := threeBox w #[.int .i64 a, .string d] (entCells x r (.slice ta r.txns.length tc) (.slice pa r.pages.length pc)) #[.int .i64 0, .string ⟨#[]⟩] 30 39 30
  have HS := Lib.hid hs
  have HL := Lib.hid hl
  have HW := Lib.hid (fun h => apP_wrong (a := a) (d := d) h x r)
  have AP : Hid (∀ W, Below w.heap.size w W → PgOk a d → Calls Try.prog 29 #[.agg #[.int .i64 a, .string d], .int .i64 x, recV r (.slice ta r.txns.length tc) (.slice pa r.pages.length pc)] W fun e w' => e = .returned (.agg #[.int .i64 (Hs.apP (a, d) x r).1, .string (Hs.apP (a, d) x r).2]) ∧ Below W.heap.size W w') := fun W hW hok => by
    have := pgApply_any a x d (r := r) (w := W) ⟨_, _, rfl, HL.out.keep hW⟩ (by rw [hok.2]; omega) HS.out
    rwa [applyR_P] at this
  unfold recV recCells at AP
  unfold entCells at hB X0 E0 R0
  unfold entV entCells
  clear hl hs
  generalize Hs.apP (a, d) x r = q at *
  obtain ⟨A, D⟩ := q
  simp only at *
  go_enter Try.func22, Try.ntmps22
  go_upto_region 1 with fail
  generalize ((w.alloc _).alloc _).alloc _ = w1 at *
  have c0 := X0.cellAt (i := 0) (by simp)
  have c1 := X0.cellAt (i := 1) (by simp)
  simp at c0 c1
  by_cases hok : PgOk a d
  · have hd := decide_eq_true hok
    have HOK := Lib.hid hok
    rw [hd] at RT
    clear HW hok hd
    go_wp2_with fail
    refine (RT.out _).mono ?_
    rintro e w2 ⟨rfl, hb⟩
    replace X0 := X0.keep hb X0.lt
    replace E0 := E0.keep hb E0.lt
    replace R0 := R0.keep hb R0.lt
    replace hB := below2 hB hb
    clear hb c0 c1 RT
    have c0 := X0.cellAt (i := 0) (by simp)
    have c1 := X0.cellAt (i := 1) (by simp)
    have d0 := E0.cell 0
    have d1 := E0.cell 1
    have d2 := E0.cell 2
    have d3 := E0.cell 3
    have d4 := E0.cell 4
    have d5 := E0.cell 5
    have d6 := E0.cell 6
    have d7 := E0.cell 7
    have d8 := E0.cell 8
    have d9 := E0.cell 9
    have d10 := E0.cell 10
    have d11 := E0.cell 11
    simp only [List.getElem?_toArray, List.getElem?_cons_zero, List.getElem?_cons_succ] at d0 d1 d2 d3 d4 d5 d6 d7 d8 d9 d10 d11
    simp at c0 c1
    have C := Lib.hid (AP.out _ hB HOK.out)
    have HB := Lib.hid hB
    clear AP hB HL HS X0 E0
    go_wp2_with fail
    refine C.out.mono ?_
    rintro e w3 ⟨rfl, hb⟩
    replace R0 := R0.keep hb R0.lt
    have HB3 := Lib.hid (below2 HB.out hb)
    clear hb c0 c1 d0 d1 d2 d3 d4 d5 d6 d7 d8 d9 d10 d11 C HB
    go_wp2_with (refine wpList_store_row rfl 30 _ _ rfl (w.heap.size + 1 + 1) _ rfl rfl 30 _ R0 (by kernel_rfl) (by simp) (by simp [Value.oneCell']) ?_)
    exact bodyPost_ret (results_cell_row rfl _ _ (w.heap.size + 1 + 1) 30 _ (0, 0) _ rfl (R0.setRow _) Try.underlying30 rfl (by kernel_rfl)) rfl ⟨rfl, below_setRow HB3.out (by omega) _⟩
  · have hd := decide_eq_false hok
    have HQ := Lib.hid (HW.out hok)
    rw [hd] at RT
    clear HW hok hd AP HL HS
    go_wp2_with fail
    refine (RT.out _).mono ?_
    rintro e w2 ⟨rfl, hb⟩
    replace X0 := X0.keep hb X0.lt
    replace R0 := R0.keep hb R0.lt
    have HB := Lib.hid (below2 hB hb)
    clear hb c0 c1 RT hB E0
    have c0 := X0.cellAt (i := 0) (by simp)
    have c1 := X0.cellAt (i := 1) (by simp)
    simp at c0 c1
    clear X0
    go_wp2_with (refine wpList_store_row rfl 30 _ _ rfl (w.heap.size + 1 + 1) _ rfl rfl 30 _ R0 (by kernel_rfl) (by simp) (by simp [Value.oneCell']) ?_)
    refine bodyPost_ret (results_cell_row rfl _ _ (w.heap.size + 1 + 1) 30 _ (0, 0) _ rfl (R0.setRow _) Try.underlying30 rfl (by kernel_rfl)) rfl ⟨?_, below_setRow HB.out (by omega) _⟩
    have := HQ.out
    simp only [Prod.mk.injEq] at this
    obtain ⟨rfl, rfl⟩ := this
    rfl
end
end Go.Proofs.Ytkodnjefdophmaa
