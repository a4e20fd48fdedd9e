/- Package chain: the small functions: written, undone, anywhere, Undo$1, undo, leadsBack, find$1, rise. -/
import Derived.Test.YtecalnglidjmgaaRecM
import Derived.Test.YtecalnglidjmgaaClone
import Derived.Test.YtecalnglidjmgaaChB
namespace Go.Proofs.Ytecalnglidjmgaa
open Go.RowKit

/-- An entry's cells, its two slices beside it. -/
def entCells (p : Int) (r : Rc) (vt vp : Value) : Array Value :=
  #[.int .i64 p, .int .i64 r.kind, .int .i64 r.txn, .int .i64 r.page, .int .i64 r.off, .int .i64 r.prev, .int .i64 r.next, .int .i64 r.beg, .string r.before, .string r.after, vt, vp]
def entV (p : Int) (r : Rc) (vt vp : Value) : Value := .agg (entCells p r vt vp)
/-- A slice's value. -/
def SlV (v : Value) : Prop := ∃ a n c, v = .slice a n c
theorem SlV.nil : SlV (.slice none 0 0) := ⟨_, _, _, rfl⟩
theorem Elems.sl {w : World} {v : Value} {n : Nat} {xs : List Value} (h : Elems w v n xs) : SlV v := let ⟨a, c, h⟩ := h.form; ⟨a, n, c, h⟩

set_option maxRecDepth 100000 in
theorem chWritten (r : Rc) (vt vp : Value) (ht : SlV vt) (hp : SlV vp) (w : World) : Calls Try.prog 24 #[recV r vt vp] w fun e w' => e = .returned (.int .i64 (Ch.nxt false r)) ∧ Below w.heap.size w w' := by
  obtain ⟨ta, tn, tc, rfl⟩ := ht
  obtain ⟨pa, pn, pc, rfl⟩ := hp
  unfold recV recCells
  go_enter Try.func24, Try.ntmps24
  go_wp2
  go_ret
  exact ⟨rfl, (Below.refl _ _).alloc (Nat.le_refl _) _⟩
set_option maxRecDepth 100000 in
theorem chUndone (r : Rc) (vt vp : Value) (ht : SlV vt) (hp : SlV vp) (w : World) : Calls Try.prog 34 #[recV r vt vp] w fun e w' => e = .returned (.int .i64 (Ch.nxt true r)) ∧ Below w.heap.size w w' := by
  obtain ⟨ta, tn, tc, rfl⟩ := ht
  obtain ⟨pa, pn, pc, rfl⟩ := hp
  unfold recV recCells
  go_enter Try.func34, Try.ntmps34
  by_cases h : r.kind = 2
  · go_wp2
    go_ret
    exact ⟨by unfold Ch.nxt; rw [if_pos ⟨rfl, h⟩]; rfl, (Below.refl _ _).alloc (Nat.le_refl _) _⟩
  · go_wp2
    go_ret
    exact ⟨by unfold Ch.nxt; rw [if_neg fun x => h x.2]; rfl, (Below.refl _ _).alloc (Nat.le_refl _) _⟩
theorem chAnywhere (p : Int) (w : World) : Calls Try.prog 23 #[.int .i64 p] w fun e w' => e = .returned (.bool true) ∧ w = w' := by
  go_enter Try.func23, Try.ntmps23
  go_wp2
  go_ret
  exact ⟨rfl, rfl⟩
theorem chAbove (p s : Int) (b : Nat) (w : World) (hb : w.cell? ⟨b, 0, none⟩ = some (.int .i64 s)) : Calls Try.prog 27 #[.int .i64 p, .pointer (some ⟨b, 0, none⟩)] w fun e w' => e = .returned (.bool (decide (s < p))) ∧ w = w' := by
  go_enter Try.func27, Try.ntmps27
  go_wp2
  go_ret
  exact ⟨rfl, rfl⟩
theorem chIsNaN (p : Int) (w : World) : Calls Try.prog 41 #[.int .i64 p] w fun e w' => e = .returned (.bool false) ∧ w = w' := by
  go_enter Try.func41, Try.ntmps41
  go_wp2
  go_ret
  exact ⟨by simp, rfl⟩
def cmpI (p q : Int) : Int := if p < q then -1 else if q < p then 1 else 0
theorem chCompare (p q : Int) (w : World) : Calls Try.prog 38 #[.int .i64 p, .int .i64 q] w fun e w' => e = .returned (.int .i64 (cmpI p q)) ∧ w = w' := by
  go_enter Try.func38, Try.ntmps38
  unfold cmpI
  by_cases h1 : p < q
  · rw [if_pos h1]
    go_wp2_with fail
    refine (chIsNaN p w).mono ?_
    rintro e w1 ⟨rfl, rfl⟩
    go_wp2_with fail
    refine (chIsNaN q _).mono ?_
    rintro e w1 ⟨rfl, rfl⟩
    go_wp2
    go_ret
    exact ⟨rfl, rfl⟩
  · rw [if_neg h1]
    by_cases h2 : q < p
    · rw [if_pos h2]
      go_wp2_with fail
      refine (chIsNaN p w).mono ?_
      rintro e w1 ⟨rfl, rfl⟩
      go_wp2_with fail
      refine (chIsNaN q _).mono ?_
      rintro e w1 ⟨rfl, rfl⟩
      go_wp2
      go_ret
      exact ⟨rfl, rfl⟩
    · rw [if_neg h2]
      go_wp2_with fail
      refine (chIsNaN p w).mono ?_
      rintro e w1 ⟨rfl, rfl⟩
      go_wp2_with fail
      refine (chIsNaN q _).mono ?_
      rintro e w1 ⟨rfl, rfl⟩
      go_wp2
      go_ret
      exact ⟨rfl, rfl⟩
set_option maxRecDepth 100000 in
theorem chCmp (p q : Int) (r : Rc) (vt vp : Value) (ht : SlV vt) (hp : SlV vp) (w : World) : Calls Try.prog 37 #[entV p r vt vp, .int .i64 q] w fun e w' => e = .returned (.int .i64 (cmpI p q)) ∧ Below w.heap.size w w' := by
  obtain ⟨ta, tn, tc, rfl⟩ := ht
  obtain ⟨pa, pn, pc, rfl⟩ := hp
  unfold entV entCells
  go_enter Try.func37, Try.ntmps37
  go_wp2_with fail
  refine (chCompare p q _).mono ?_
  rintro e w1 ⟨rfl, rfl⟩
  go_wp2
  go_ret
  exact ⟨rfl, (Below.refl _ _).alloc (Nat.le_refl _) _⟩
/-- From which each way goes to a lesser place. -/
def Leads (p : Int) (r : Rc) : Prop := (r.kind = 1 ∧ r.prev < p) ∨ (r.kind = 2 ∧ r.prev < p ∧ r.next < p)
instance (p : Int) (r : Rc) : Decidable (Leads p r) := inferInstanceAs (Decidable (_ ∨ _))
set_option maxRecDepth 100000 in
theorem chLeads (p : Int) (r : Rc) (vt vp : Value) (ht : SlV vt) (hp : SlV vp) (w : World) : Calls Try.prog 39 #[entV p r vt vp] w fun e w' => e = .returned (.bool (decide (Leads p r))) ∧ Below w.heap.size w w' := by
  obtain ⟨ta, tn, tc, rfl⟩ := ht
  obtain ⟨pa, pn, pc, rfl⟩ := hp
  unfold entV entCells
  obtain ⟨yes, hyes⟩ : ∃ yes, yes = decide (Leads p r) := ⟨_, rfl⟩
  rw [← hyes]
  have fin : ∀ b : Bool, (b = true ↔ Leads p r) → Ending.returned (.bool b) = Ending.returned (.bool yes) := fun b hb => by
    rw [hyes]
    congr 2
    rw [Bool.eq_iff_iff, hb, decide_eq_true_eq]
  clear hyes
  unfold Leads at fin
  have FIN := Lib.hid fin
  clear fin
  go_enter Try.func39, Try.ntmps39
  by_cases h1 : r.kind = 1
  · go_wp2
    go_ret
    exact ⟨FIN.out _ (by rw [decide_eq_true_eq]; omega), (Below.refl _ _).alloc (Nat.le_refl _) _⟩
  · by_cases h2 : r.kind = 2
    · go_wp2
      all_goals (go_ret; refine ⟨Eq.trans (b := Ending.returned (Value.bool _)) rfl (FIN.out _ ?_), (Below.refl _ _).alloc (Nat.le_refl _) _⟩)
      all_goals (first | rw [decide_eq_true_eq] | simp)
      all_goals omega
    · go_wp2
      go_ret
      exact ⟨FIN.out _ (by simp; omega), (Below.refl _ _).alloc (Nat.le_refl _) _⟩
end Go.Proofs.Ytecalnglidjmgaa
