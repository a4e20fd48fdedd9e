/- careenlaw04: what the document fixes comes out; what is small enough. -/
import Derived.Test.YtopihafmajadfaaRecL
namespace Go.Proofs.Ytopihafmajadfaa
open Go.RowKit

theorem fit_iff (r : Rc) : Fit r ↔ (r.before.size ≤ 300 ∧ r.after.size ≤ 300 ∧ r.txns.length ≤ 50 ∧ r.pages.length ≤ 50) := ⟨fun h => ⟨h.before, h.after, h.txns, h.pages⟩, fun h => ⟨h.1, h.2.1, h.2.2.1, h.2.2.2⟩⟩

set_option maxRecDepth 100000 in
set_option maxHeartbeats 4000000 in
theorem few_yes {w : World} {v : Value} {r : Rc} (hv : IsRec w v r) (hf : Fit r) :
    Calls Try.prog 18 #[v] w fun e w' => e = .returned (.bool true) ∧ Below w.heap.size w w' := by
  obtain ⟨vt, vp, rfl, hl⟩ := hv
  obtain ⟨ta, tc, e⟩ := hl.t.form
  subst e
  obtain ⟨pa, pc, e⟩ := hl.p.form
  subst e
  obtain ⟨f1, f2, f3, f4⟩ := hf
  have g1 : (r.before.size : Int) ≤ 300 := by omega
  have g2 : (r.after.size : Int) ≤ 300 := by omega
  have g3 : (r.txns.length : Int) ≤ 50 := by omega
  have g4 : (r.pages.length : Int) ≤ 50 := by omega
  clear hl
  unfold recV recCells
  go_enter Try.func18, Try.ntmps18
  go_wp2
  go_ret
  exact ⟨rfl, (Below.refl _ _).alloc (Nat.le_refl _) _⟩

set_option maxRecDepth 100000 in
set_option maxHeartbeats 4000000 in
theorem few_no {w : World} {v : Value} {r : Rc} (hv : IsRec w v r) (hs : r.before.size ≤ maxLen ∧ r.after.size ≤ maxLen) (hf : ¬ Fit r) :
    Calls Try.prog 18 #[v] w fun e w' => e = .returned (.bool false) ∧ Below w.heap.size w w' := by
  obtain ⟨vt, vp, rfl, hl⟩ := hv
  obtain ⟨ta, tc, e⟩ := hl.t.form
  subst e
  obtain ⟨pa, pc, e⟩ := hl.p.form
  subst e
  rw [fit_iff] at hf
  have HF := Lib.hid hf
  have h3 := hl.t.le
  have h4 := hl.p.le
  obtain ⟨h1, h2⟩ := hs
  unfold maxLen at h1 h2 h3 h4
  clear hl hf
  unfold recV recCells
  go_enter Try.func18, Try.ntmps18
  go_wp2
  all_goals first
    | (go_ret; exact ⟨rfl, (Below.refl _ _).alloc (Nat.le_refl _) _⟩)
    | (go_ret; have hff := HF.out; refine ⟨?_, (Below.refl _ _).alloc (Nat.le_refl _) _⟩; show Ending.returned (.bool (decide _)) = _; rw [decide_eq_false (by omega)])

set_option maxRecDepth 100000 in
set_option maxHeartbeats 8000000 in
theorem awake_any (w : World) : Calls Try.prog 11 #[] w fun e w' => e = .returned (.bool true) ∧ Below w.heap.size w w' := by
  have n0 : ∀ (r : Rc) W, r.txns = [] → r.pages = [] → IsRec W (recV r (.slice none 0 0) (.slice none 0 0)) r := fun r W h1 h2 => ⟨_, _, rfl, Lists.nil W r h1 h2⟩
  have m1 : May (.com 3 1 2) := .com (.inl rfl) (by omega) (by unfold Num; omega) (by unfold Num; omega)
  have P1 := Lib.hid (fun W => print_yes (n0 (.com 3 1 2) W rfl rfl) m1)
  have P2 := Lib.hid (fun W => print_yes (n0 .begin5 W rfl rfl) .beg)
  have P3 := Lib.hid (fun W => print_no (n0 (.com 5 1 0) W rfl rfl) ⟨Nat.zero_le _, Nat.zero_le _, Nat.zero_le _, Nat.zero_le _⟩ (by
    intro h
    generalize hr : Rc.com 5 1 0 = r at h
    cases h with
    | upd => simp [Rc.com, Rc.upd] at hr
    | und => simp [Rc.com, Rc.und] at hr
    | com hk => simp [Rc.com] at hr; omega
    | beg => simp [Rc.com, Rc.begin5] at hr
    | tab => simp [Rc.com, Rc.tab] at hr))
  have hr7 : readR ⟨#[7]⟩ 0 = (.nil, 0, 3) := by
    unfold readR
    rw [if_neg (by simp)]
    rfl
  have R1 := Lib.hid (fun W => rdRead_as ⟨#[7]⟩ 0 W hr7 (by decide))
  have l1 : lay (.com 3 1 2) = [3, 0, 0, 0, 1, 0, 0, 0, 2] := by decide
  have l2 : lay .begin5 = [5] := by decide
  rw [l1] at P1
  rw [l2] at P2
  clear n0 m1 l1 l2 hr7
  go_enter Try.func11, Try.ntmps11
  go_wp2_with fail
  refine (P1.out _).mono ?_
  rintro e w1 ⟨rfl, hb1⟩
  go_wp2_with fail
  refine (P2.out _).mono ?_
  rintro e w2 ⟨rfl, hb2⟩
  go_wp2_with fail
  refine (P3.out _).mono ?_
  rintro e w3 ⟨rfl, hb3⟩
  go_wp2_with fail
  refine (R1.out _).mono ?_
  rintro e w4 ⟨v', rfl, ⟨vt', vp', hv', hl'⟩, hb4⟩
  subst hv'
  have one := hl'.one
  have hn := Blk.new w4 26 (recCells .nil (.slice none 0 0) (.slice none 0 0))
  have LB := Lib.hid (below2 (below2 (below2 (below2 hb1 hb2) hb3) hb4) (below_setRow ((Below.refl _ _).alloc (Nat.le_refl _) (.cells (recCells .nil (.slice none 0 0) (.slice none 0 0)) 26)) (Nat.le_refl _) (recCells .nil vt' vp')))
  clear hb1 hb2 hb3 hb4 P1 P2 P3 R1 hl'
  go_wp2_with (refine wpList_store_row rfl 26 _ _ rfl w4.heap.size _ rfl rfl 26 _ hn (by kernel_rfl) rfl one ?_)
  go_ret
  exact ⟨rfl, LB.out⟩
end Go.Proofs.Ytopihafmajadfaa
