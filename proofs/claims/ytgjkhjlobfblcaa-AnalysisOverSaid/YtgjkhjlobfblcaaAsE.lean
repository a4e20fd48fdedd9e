/- Package analysis: note, in memory. -/
import Derived.Test.YtgjkhjlobfblcaaAsD
namespace Go.Proofs.Ytgjkhjlobfblcaa
open Go.RowKit Go.MapKept
set_option linter.unusedSimpArgs false

set_option maxRecDepth 100000 in
set_option maxHeartbeats 8000000 in
theorem asNote {w : World} {mt mp : Nat} {s : An.Ta} (h : IsTa w mt mp s) (p : Int) (r : Rc) (vt vp : Value) (hl : Lists w r vt vp) (check : Int) (hc : ¬ p < check) :
    Calls Try.prog 19 #[stV mt mp, entV p r vt vp, .int .i64 check] w (OutA w mt mp (An.step check s (p, r))) := by
  have hsl := hl.t.sl
  have hsp := hl.p.sl
  obtain ⟨hb, hz, k0, k1⟩ := twoBox w #[.map (some mt), .map (some mp)] (entCells p r vt vp) 54 30
  have hx := h.keep hb
  have hlx := hl.keep hb
  have CC := Lib.hid (fun W (hW : IsTa W mt mp s) => asChange hW p r vt vp hsl hsp)
  have CM := Lib.hid (fun W (hW : IsTa W mt mp s) (hl : Lists W r vt vp) => asMerge hW r vt vp hl)
  obtain ⟨ta, tc, rfl⟩ := hl.t.form
  obtain ⟨pa, pc, rfl⟩ := hl.p.form
  unfold stV entV entCells at CC
  unfold stV recV recCells at CM
  unfold entCells at hb hz k0 k1 hx hlx
  unfold entV entCells stV
  have HS := Lib.hid (show An.step check s (p, r) = (if r.kind = 1 ∨ r.kind = 2 then ⟨chT s r.txn p, chP s r.page p⟩ else if r.kind = 3 ∨ r.kind = 4 then ⟨An.put s.t r.txn none, s.p⟩ else if r.kind = 6 ∧ r.beg = check then ⟨r.txns.foldl An.mergeT s.t, r.pages.foldl An.mergeP s.p⟩ else s) from by unfold An.step; rw [if_neg hc]; rfl)
  clear h hc hl
  obtain ⟨S', hS'⟩ : ∃ S', An.step check s (p, r) = S' := ⟨_, rfl⟩
  rw [hS'] at HS ⊢
  clear hS'
  go_enter Try.func19, Try.ntmps19
  go_upto_region 1 with fail
  generalize (w.alloc (Obj.cells #[.map (some mt), .map (some mp)] 54)).alloc (Obj.cells #[.int .i64 p, .int .i64 r.kind, .int .i64 r.txn, .int .i64 r.page, .int .i64 r.off, .int .i64 r.prev, .int .i64 r.next, .int .i64 r.beg, .string r.before, .string r.after, .slice ta r.txns.length tc, .slice pa r.pages.length pc] 30) = wx at *
  have HB := Lib.hid (Only.ofBelow (S := Two mt mp) hb)
  have HX := Lib.hid hx
  have HLX := Lib.hid hlx
  have c0 := k0.cell 0
  have c1 := k0.cell 1
  have d0 := k1.cell 0
  have d1 := k1.cell 1
  have d2 := k1.cell 2
  have d3 := k1.cell 3
  have d4 := k1.cell 4
  have d5 := k1.cell 5
  have d6 := k1.cell 6
  have d7 := k1.cell 7
  have d8 := k1.cell 8
  have d9 := k1.cell 9
  have d10 := k1.cell 10
  have d11 := k1.cell 11
  simp only [List.getElem?_toArray, List.getElem?_cons_zero, List.getElem?_cons_succ] at c0 c1 d0 d1 d2 d3 d4 d5 d6 d7 d8 d9 d10 d11
  clear hb hx hlx k0 k1 hsl hsp
  obtain ⟨kd, hkd⟩ : ∃ kd, r.kind = kd := ⟨_, rfl⟩
  rw [hkd] at HS d1 CC CM ⊢
  have HKD := Lib.hid hkd
  clear hkd
  by_cases h12 : kd = 1 ∨ kd = 2
  · have HF := Lib.hid (HS.out.trans (if_pos h12))
    have C := Lib.hid (CC.out wx HX.out)
    clear CC CM HS
    have fin : ∀ e w', OutA wx mt mp ⟨chT s r.txn p, chP s r.page p⟩ e w' → OutA w mt mp S' e w' := fun e w' ⟨h1, h2, h3⟩ => ⟨h1, by rw [HF.out]; exact h2, HB.out.trans h3⟩
    rcases h12 with rfl | rfl
    · go_wp2_with fail
      refine C.out.mono ?_
      rintro e w1 ⟨⟨v, rfl⟩, h2, h3⟩
      go_wp2
      go_end0
      exact fin _ _ ⟨⟨_, rfl⟩, h2, h3⟩
    · go_wp2_with fail
      refine C.out.mono ?_
      rintro e w1 ⟨⟨v, rfl⟩, h2, h3⟩
      go_wp2
      go_end0
      exact fin _ _ ⟨⟨_, rfl⟩, h2, h3⟩
  · have HS2 := Lib.hid (HS.out.trans (if_neg h12))
    have n1 : ¬ kd = 1 := fun e => h12 (.inl e)
    have n2 : ¬ kd = 2 := fun e => h12 (.inr e)
    clear HS CC h12
    by_cases h34 : kd = 3 ∨ kd = 4
    · have HF := Lib.hid (HS2.out.trans (if_pos h34))
      obtain ⟨w2, u2, x2, o2, z2⟩ := HX.out.dropT r.txn
      have X2 := Lib.hid x2
      have O2 := Lib.hid o2
      clear CM HS2 x2 o2
      rcases h34 with rfl | rfl
      · go_wp2
        go_end0
        exact ⟨⟨_, rfl⟩, by rw [HF.out]; exact X2.out, HB.out.trans O2.out⟩
      · go_wp2
        go_end0
        exact ⟨⟨_, rfl⟩, by rw [HF.out]; exact X2.out, HB.out.trans O2.out⟩
    · have HS3 := Lib.hid (HS2.out.trans (if_neg h34))
      have n3 : ¬ kd = 3 := fun e => h34 (.inl e)
      have n4 : ¬ kd = 4 := fun e => h34 (.inr e)
      clear HS2 h34
      by_cases h6 : kd = 6
      · subst h6
        by_cases hbg : r.beg = check
        · have HF := Lib.hid (HS3.out.trans (if_pos ⟨rfl, hbg⟩))
          rw [hbg] at d7 CM
          have C := Lib.hid (CM.out wx HX.out HLX.out)
          clear CM HS3 hbg
          go_wp2_with fail
          refine C.out.mono ?_
          rintro e w1 ⟨⟨v, rfl⟩, h2, h3⟩
          go_wp2
          go_end0
          exact ⟨⟨_, rfl⟩, by rw [HF.out]; exact h2, HB.out.trans h3⟩
        · have HF := Lib.hid (HS3.out.trans (if_neg fun k => hbg k.2))
          clear CM HS3
          go_wp2
          go_end0
          exact ⟨⟨_, rfl⟩, by rw [HF.out]; exact HX.out, HB.out⟩
      · have HF := Lib.hid (HS3.out.trans (if_neg fun k => h6 k.1))
        clear CM HS3
        go_wp2
        go_end0
        exact ⟨⟨_, rfl⟩, by rw [HF.out]; exact HX.out, HB.out⟩
end Go.Proofs.Ytgjkhjlobfblcaa
