/- Package record: two records held against one another. -/
import Derived.Test.YtpcfhpffbogjmaaRecI
namespace Go.Proofs.Ytpcfhpffbogjmaa
open Go.RowKit

set_option maxRecDepth 100000 in
set_option maxHeartbeats 16000000 in
theorem same_any {w : World} {va vb : Value} {a b : Rc} (ha : IsRec w va a) (hb : IsRec w vb b) (yes : Bool) (hy : yes = decide (a = b)) :
    Calls Try.prog 48 #[va, vb] w fun e w' => e = .returned (.bool yes) ∧ Below w.heap.size w w' := by
  obtain ⟨at_, ap, rfl, la⟩ := ha
  obtain ⟨bt, bp, rfl, lb⟩ := hb
  have HY := Lib.hid hy
  have hB : Below w.heap.size w ((w.alloc (.cells (recCells a at_ ap) 50)).alloc (.cells (recCells b bt bp) 50)) := ((Below.refl _ _).alloc (Nat.le_refl _) _).alloc (by simp) _
  have E3 := Lib.hid (fun W (hW : Below w.heap.size w W) => equal3_any (la.t.keep hW) (lb.t.keep hW) (decide (a.txns = b.txns)) rfl)
  have E2 := Lib.hid (fun W (hW : Below w.heap.size w W) => equal2_any (la.p.keep hW) (lb.p.keep hW) (decide (a.pages = b.pages)) rfl)
  clear hy la lb hB
  unfold recV recCells
  go_enter Try.func48, Try.ntmps48
  go_wp2_with fail
  · refine (E3.out _ (((Below.refl _ _).alloc (Nat.le_refl _) _).alloc (by simp) _)).mono ?_
    rintro e w1 ⟨rfl, hb1⟩
    have p10 := hb1.cell (p := ⟨w.heap.size, 10, none⟩) (by simp; omega)
    have q10 := hb1.cell (p := ⟨w.heap.size + 1, 10, none⟩) (by simp)
    simp [go_sem] at p10 q10
    have hb : Below w.heap.size w w1 := (((Below.refl _ _).alloc (Nat.le_refl _) _).alloc (by simp) _).trans (hb1.mono (by simp; omega))
    have HB := Lib.hid hb
    clear hb hb1
    by_cases ht : a.txns = b.txns
    · have hd : decide (a.txns = b.txns) = true := decide_eq_true ht
      rw [hd]
      have HT := Lib.hid ht
      clear ht hd
      go_wp2_with fail
      refine (E2.out _ HB.out).mono ?_
      rintro e w2 ⟨rfl, hb2⟩
      have HB2 := Lib.hid (HB.out.trans (hb2.mono HB.out.size))
      have hfin : yes = decide (a.pages = b.pages) := by
        rw [HY.out]
        have h8 : a.before = b.before := str_ext (by simpa only [ByteArray.toList_eq] using ‹a.before.toList = b.before.toList›)
        have h9 : a.after = b.after := str_ext (by simpa only [ByteArray.toList_eq] using ‹a.after.toList = b.after.toList›)
        refine decide_eq_decide.2 ⟨fun h => by rw [h], fun h => ?_⟩
        exact Rc.ext11 ‹a.kind = b.kind› ‹a.txn = b.txn› ‹a.page = b.page› ‹a.off = b.off› ‹a.prev = b.prev› ‹a.next = b.next› ‹a.beg = b.beg› h8 h9 HT.out h
      have HF := Lib.hid hfin
      clear hfin hb2 HB
      go_wp2
      go_ret
      refine ⟨?_, HB2.out⟩
      show Ending.returned (.bool (decide (a.pages = b.pages))) = _
      rw [HF.out]
    · have hd : decide (a.txns = b.txns) = false := decide_eq_false ht
      rw [hd]
      have hno : yes = false := by rw [HY.out]; exact decide_eq_false (by rintro rfl; exact ht rfl)
      subst hno
      clear hd HY ht
      go_wp2
      go_ret
      exact ⟨rfl, HB.out⟩
  all_goals
    have hno : yes = false := by rw [HY.out]; exact decide_eq_false (by rintro rfl; simp_all)
    subst hno
    go_ret
    exact ⟨rfl, ((Below.refl _ _).alloc (Nat.le_refl _) _).alloc (by simp) _⟩
end Go.Proofs.Ytpcfhpffbogjmaa
