/- The document's records (careenref04): what may be a number, where bytes may stand. -/
import Derived.Test.YtopihafmajadfaaRecM
namespace Go.Proofs.Ytopihafmajadfaa
open Go.RowKit

def intsV (l : List Int) : Array Value := (l.map (Value.int .i64)).toArray
def allNum (l : List Int) : Bool := l.all fun n => decide (Num n)
theorem allNum_no {l : List Int} {k : Nat} (h : k < l.length) (hn : ¬ Num l[k]) : allNum l = false := by
  unfold allNum
  rw [List.all_eq_false]
  exact ⟨l[k], List.getElem_mem h, by simpa using hn⟩
theorem allNum_yes {l : List Int} (h : ∀ k (hk : k < l.length), Num l[k]) : allNum l = true := by
  unfold allNum
  rw [List.all_eq_true]
  intro x hx
  obtain ⟨k, hk, rfl⟩ := List.mem_iff_getElem.1 hx
  simpa using h k hk

set_option maxRecDepth 100000 in
set_option maxHeartbeats 4000000 in
theorem num_any {w : World} {g : Nat} {l : List Int} (hb : Blk w g 3 (intsV l)) (hl : l.length ≤ 100) (yes : Bool) (hy : yes = allNum l) :
    Calls Try.prog 61 #[.slice (some ⟨g, 0, none⟩) l.length l.length] w fun e w' => e = .returned (.bool yes) ∧ w = w' := by
  have HY := Lib.hid hy
  have HB := Lib.hid hb
  clear hy hb
  go_enter Try.func61, Try.ntmps61
  go_wp2
  go_loopw [3] (fun vk wr => ∃ k : Nat, k ≤ l.length ∧ vk = .int .i64 k ∧ (∀ j (hj : j < l.length), j < k → Num l[j]) ∧ w = wr) (fun vk _ => l.length - (intOf vk).toNat)
  case atStart => exact ⟨0, Nat.zero_le _, rfl, fun j _ h => by omega, rfl⟩
  case round =>
    obtain ⟨k, hk, rfl, hno, rfl⟩ := hrel
    have HNO := Lib.hid hno
    clear hno
    by_cases hlt : k < l.length
    · have c := HB.out.cell k
      rw [show (intsV l)[k]? = some (.int .i64 l[k]) from by simp [intsV, hlt]] at c
      by_cases hn : Num l[k]
      · have HN2 : Hid (∀ j (hj : j < l.length), j < k + 1 → Num l[j]) := fun j hj hjk => by
          by_cases e : j = k
          · subst e; exact hn
          · exact HNO.out j hj (by omega)
        obtain ⟨h1, h2⟩ := hn
        generalize l[k] = x at *
        have h3 : ¬ x < 0 := by omega
        go_wp2
        go_roundw
        case rel => exact ⟨k + 1, by omega, by go_num, HN2.out, by first | rfl | trivial⟩
        case measure => simp [intOf]; omega
      · have hno : yes = false := by rw [HY.out]; exact allNum_no hlt hn
        subst hno
        unfold Num at hn
        clear HY HNO
        generalize l[k] = x at *
        go_wp2
        all_goals
          go_ret
          exact ⟨rfl, rfl⟩
    · have hyes : yes = true := by rw [HY.out]; exact allNum_yes fun j hj => HNO.out j hj (by omega)
      subst hyes
      clear HY HNO
      go_wp2
      go_ret
      exact ⟨rfl, rfl⟩
theorem spot_iff (r : Rc) : Spot r.page r.off r.after ↔ (0 ≤ r.page ∧ r.page ≤ 7) ∧ 0 ≤ r.off ∧ r.off ≤ 220 ∧ (1 ≤ (r.after.size : Int) ∧ (r.after.size : Int) ≤ 16) ∧ r.off + (r.after.size : Int) ≤ 220 := by
  unfold Spot
  omega
set_option maxRecDepth 100000 in
set_option maxHeartbeats 4000000 in
theorem refSpot_any {w : World} {v : Value} {r : Rc} (hv : IsRec w v r) (hs : r.after.size ≤ maxLen) (yes : Bool) (hy : yes = decide (Spot r.page r.off r.after)) :
    Calls Try.prog 62 #[v] w fun e w' => e = .returned (.bool yes) ∧ Below w.heap.size w w' := by
  obtain ⟨vt, vp, rfl, hl⟩ := hv
  have HY := Lib.hid hy
  clear hy hl
  unfold maxLen at hs
  unfold recV recCells
  go_enter Try.func62, Try.ntmps62
  go_wp2
  all_goals first
    | (have hno : yes = false := by
         rw [HY.out]
         exact decide_eq_false (fun h => by rw [spot_iff] at h; omega)
       subst hno
       clear HY
       go_ret
       exact ⟨rfl, (Below.refl _ _).alloc (Nat.le_refl _) _⟩)
    | (have hq : yes = decide (r.off + (r.after.size : Int) ≤ 220) := by
         rw [HY.out]
         exact decide_eq_decide.2 (by rw [spot_iff]; omega)
       have HQ := Lib.hid hq
       clear HY hq
       go_ret
       refine ⟨?_, (Below.refl _ _).alloc (Nat.le_refl _) _⟩
       show Ending.returned (.bool (decide (r.off + (r.after.size : Int) ≤ 220))) = _
       rw [HQ.out])
end Go.Proofs.Ytopihafmajadfaa
