/- Package lock: May. -/
import Derived.Test.YtkeonffkaopclaaLkC
namespace Go.Proofs.Ytkeonffkaopclaa
open Go.RowKit

section
variable {w : World} {F : Foot} {q : Nat} {S : Lk}
set_option maxRecDepth 100000 in
set_option maxHeartbeats 8000000 in
theorem lkMay_bad (t p m : Int) (hc : ¬ Call9 t p m) :
    Calls Try.prog 14 #[.pointer (some ⟨q, 0, none⟩), .int .i64 t, .int .i64 p, .int .i64 m] w fun e w' => e = .returned (.int .i64 1) ∧ w = w' := by
  have HP := Lib.hid (fun W => lkPage_any p W)
  unfold Call9 at hc
  by_cases h1 : t < 1
  · clear hc
    go_enter Try.func14, Try.ntmps14
    go_wp2_with fail
    go_ret
    exact ⟨rfl, rfl⟩
  by_cases h2 : 2147483647 < t
  · clear hc
    go_enter Try.func14, Try.ntmps14
    go_wp2_with fail
    go_ret
    exact ⟨rfl, rfl⟩
  by_cases hp : 0 ≤ p ∧ p < 8
  · have hm : ¬ (m = 1 ∨ m = 2) := fun hm => hc ⟨by omega, by omega, hp.1, hp.2, hm⟩
    rw [decide_eq_true hp] at HP
    have m1 : ¬ m = 1 := fun e => hm (.inl e)
    have m2 : ¬ m = 2 := fun e => hm (.inr e)
    have m1' : (m != 1) = true := by simpa using m1
    have m2' : (m != 2) = true := by simpa using m2
    clear hp hm hc
    go_enter Try.func14, Try.ntmps14
    go_wp2_with fail
    refine (HP.out _).mono ?_
    rintro e w1 ⟨rfl, rfl⟩
    go_wp2_with fail
    go_ret
    exact ⟨rfl, rfl⟩
  · rw [decide_eq_false hp] at HP
    clear hp hc
    go_enter Try.func14, Try.ntmps14
    go_wp2_with fail
    refine (HP.out _).mono ?_
    rintro e w1 ⟨rfl, rfl⟩
    go_wp2_with fail
    go_ret
    exact ⟨rfl, rfl⟩
set_option maxRecDepth 100000 in
set_option maxHeartbeats 8000000 in
theorem lkMay_good (h : IsLock w F q S) (t : Int) (k : Nat) (m : Int) (hc : Call9 t k m) (b al two : Bool) (hb : (S k).others t = b) (ha : (S k).alone = al) (h2 : m = bif two then 2 else 1) :
    Calls Try.prog 14 #[.pointer (some ⟨q, 0, none⟩), .int .i64 t, .int .i64 k, .int .i64 m] w fun e w' => e = .returned (.int .i64 (bif b then (bif al then 6 else bif two then 6 else 0) else 0)) ∧ Below w.heap.size w w' := by
  have HP := Lib.hid (fun W => lkPage_any (k : Int) W)
  obtain ⟨t1, t2, p1, p2, _⟩ := hc
  rw [decide_eq_true ⟨p1, p2⟩] at HP
  have hk : k < 8 := by omega
  obtain ⟨ho, M, r⟩ := h
  have c0 := r.cMap hk
  have c1 := r.cAlone hk
  rw [ha] at c1
  have HH := Lib.hid (fun W (hW : Below w.heap.size w W) => lkBesides_any (x := S k) ((r.below hW).held k hk) (ho.nodup k) (ho.few k) al t)
  rw [hb] at HH
  have x := Blk.new w 46 #[.map (M k), .bool al]
  have HB0 := Lib.hid ((Below.refl w.heap.size w).alloc (Nat.le_refl _) (.cells #[.map (M k), .bool al] 46))
  have d0 := x.cell 0
  have d1 := x.cell 1
  have HX := Lib.hid x
  simp at d0 d1
  clear hb ha r ho hk p1 x
  generalize M k = mk at *
  have n1 : ¬ t < 1 := by omega
  have n2 : ¬ 2147483647 < t := by omega
  clear t1 t2
  cases two <;> simp only [cond_true, cond_false] at h2 <;> subst h2 <;> cases b <;> cases al <;> (
    go_enter Try.func14, Try.ntmps14
    go_wp2_with fail
    refine (HP.out _).mono ?_
    rintro e w1 ⟨rfl, rfl⟩
    go_wp2_with fail
    refine (HH.out _ HB0.out).mono ?_
    rintro e w2 ⟨rfl, hb⟩
    have X2 := HX.out.keep hb HX.out.lt
    have f1 := X2.cell 1
    simp at f1
    have HB := Lib.hid (below2 HB0.out hb)
    clear hb X2
    go_wp2
    go_ret
    exact ⟨rfl, HB.out⟩)
theorem lkMay_any (h : IsLock w F q S) (t p m : Int) :
    Calls Try.prog 14 #[.pointer (some ⟨q, 0, none⟩), .int .i64 t, .int .i64 p, .int .i64 m] w fun e w' => e = .returned (.int .i64 (S.may t p m)) ∧ Below w.heap.size w w' := by
  by_cases hc : Call9 t p m
  · obtain ⟨k, rfl⟩ : ∃ k : Nat, p = k := ⟨p.toNat, by have := hc.2.2.1; omega⟩
    have hm : m = bif decide (m = 2) then 2 else 1 := by
      rcases hc.2.2.2.2 with rfl | rfl <;> rfl
    refine (lkMay_good h t k m hc _ _ (decide (m = 2)) rfl rfl hm).mono ?_
    rintro e w1 ⟨rfl, hb⟩
    refine ⟨?_, hb⟩
    unfold Lk.may
    rw [if_pos hc, Int.toNat_natCast]
    cases (S k).others t <;> cases (S k).alone <;> by_cases h2 : m = 2 <;> simp [h2]
  · refine (lkMay_bad t p m hc).mono ?_
    rintro e w1 ⟨rfl, rfl⟩
    exact ⟨by unfold Lk.may; rw [if_neg hc]; rfl, Below.refl _ _⟩
end
end Go.Proofs.Ytkeonffkaopclaa
