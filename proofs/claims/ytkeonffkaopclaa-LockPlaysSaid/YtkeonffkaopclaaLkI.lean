/- Package lock: calls of a table that is none; a table made since a world; two lists of whole numbers (careenref09.Same). -/
import Derived.Test.YtkeonffkaopclaaLkH
namespace Go.Proofs.Ytkeonffkaopclaa
open Go.RowKit

section
set_option maxRecDepth 100000 in
theorem lkMay_nil (t p m : Int) (w : World) : Calls Try.prog 14 #[.pointer none, .int .i64 t, .int .i64 p, .int .i64 m] w fun e w' => e = .returned (.int .i64 10) ∧ w = w' := by
  go_enter Try.func14, Try.ntmps14
  go_wp2
  go_ret
  exact ⟨rfl, rfl⟩
set_option maxRecDepth 100000 in
theorem lkTake_nil (t p m : Int) (w : World) : Calls Try.prog 10 #[.pointer none, .int .i64 t, .int .i64 p, .int .i64 m] w fun e w' => e = .returned (.int .i64 10) ∧ w = w' := by
  have K := Lib.hid (lkMay_nil t p m w)
  go_enter Try.func10, Try.ntmps10
  go_wp2_with fail
  refine K.out.mono ?_
  rintro e w1 ⟨rfl, rfl⟩
  go_wp2
  go_ret
  exact ⟨rfl, rfl⟩
set_option maxRecDepth 100000 in
theorem lkPages_nil (t : Int) (w : World) : Calls Try.prog 20 #[.pointer none, .int .i64 t] w fun e w' => e = .returned (.slice none 0 0) ∧ w = w' := by
  go_enter Try.func20, Try.ntmps20
  go_wp2
  go_ret
  exact ⟨rfl, rfl⟩
set_option maxRecDepth 100000 in
theorem lkFree_nil (t : Int) (w : World) : Calls Try.prog 12 #[.pointer none, .int .i64 t] w fun e w' => e = .returned (.int .i64 0) ∧ w = w' := by
  have K := Lib.hid (lkPages_nil t w)
  go_enter Try.func12, Try.ntmps12
  go_wp2_with fail
  refine K.out.mono ?_
  rintro e w1 ⟨rfl, rfl⟩
  go_wp2
  go_loopw [14] (fun i wr => i = .int .i64 0 ∧ wr = w) (fun _ _ => 0)
  case atStart => exact ⟨rfl, rfl⟩
  case round =>
    obtain ⟨rfl, rfl⟩ := hrel
    go_wp2
    go_ret
    exact ⟨rfl, rfl⟩
set_option maxRecDepth 100000 in
theorem lkMode_nil (t p : Int) (w : World) : Calls Try.prog 17 #[.pointer none, .int .i64 t, .int .i64 p] w fun e w' => e = .returned (.int .i64 0) ∧ w = w' := by
  go_enter Try.func17, Try.ntmps17
  go_wp2
  go_ret
  exact ⟨rfl, rfl⟩
end
/-- A table made since w0. -/
structure LiveK (w0 w : World) (F : Foot) (q : Nat) (S : Lk) : Prop where
  lock : IsLock w F q S
  newF : ∀ b, F b → w0.heap.size ≤ b
  below : Below w0.heap.size w0 w
namespace LiveK
variable {w0 w w' : World} {F F' : Foot} {q : Nat} {S S' : Lk}
theorem more (h : LiveK w0 w F q S) (hb : Below w.heap.size w w') : LiveK w0 w' F q S := ⟨h.lock.below hb, h.newF, below2 h.below hb⟩
theorem step (h : LiveK w0 w F q S) (hl : IsLock w' F' q S') (hs : Step F F' w w') : LiveK w0 w' F' q S' :=
  ⟨hl, fun b hb => (hs.foot b hb).elim (h.newF b) fun g => Nat.le_trans h.below.size g, hs.belowB h.newF h.below h.below.size⟩
theorem make (hb : Below w0.heap.size w0 w) : Calls Try.prog 9 #[] w fun e w' => ∃ F q, e = .returned (.pointer (some ⟨q, 0, none⟩)) ∧ LiveK w0 w' F q Lk.empty := by
  refine (lkNew_any w).mono ?_
  rintro e w1 ⟨rfl, hl, hb1⟩
  exact ⟨_, _, rfl, hl, fun b e => by rw [e]; exact hb.size, below2 hb hb1⟩
theorem take (h : LiveK w0 w F q S) (t p m : Int) : Calls Try.prog 10 #[.pointer (some ⟨q, 0, none⟩), .int .i64 t, .int .i64 p, .int .i64 m] w fun e w' => ∃ F', e = .returned (.int .i64 (S.may t p m)) ∧ LiveK w0 w' F' q (S.take t p m) ∧ Step F F' w w' := by
  refine (lkTake_any h.lock t p m).mono ?_
  rintro e w1 ⟨F1, rfl, hl, hs⟩
  exact ⟨F1, rfl, h.step hl hs, hs⟩
theorem free (h : LiveK w0 w F q S) (t : Int) : Calls Try.prog 12 #[.pointer (some ⟨q, 0, none⟩), .int .i64 t] w fun e w' => ∃ F', e = .returned (.int .i64 (S.pages t).length) ∧ LiveK w0 w' F' q (S.free t) ∧ Step F F' w w' := by
  refine (lkFree_any h.lock t).mono ?_
  rintro e w1 ⟨F1, rfl, hl, hs⟩
  exact ⟨F1, rfl, h.step hl hs, hs⟩
theorem may (h : LiveK w0 w F q S) (t p m : Int) : Calls Try.prog 14 #[.pointer (some ⟨q, 0, none⟩), .int .i64 t, .int .i64 p, .int .i64 m] w fun e w' => e = .returned (.int .i64 (S.may t p m)) ∧ LiveK w0 w' F q S ∧ Below w.heap.size w w' := by
  refine (lkMay_any h.lock t p m).mono ?_
  rintro e w1 ⟨rfl, hb⟩
  exact ⟨rfl, h.more hb, hb⟩
theorem mode (h : LiveK w0 w F q S) (t p : Int) : Calls Try.prog 17 #[.pointer (some ⟨q, 0, none⟩), .int .i64 t, .int .i64 p] w fun e w' => e = .returned (.int .i64 (S.mode t p)) ∧ LiveK w0 w' F q S ∧ Below w.heap.size w w' := by
  refine (lkMode_any h.lock t p).mono ?_
  rintro e w1 ⟨rfl, hb⟩
  exact ⟨rfl, h.more hb, hb⟩
theorem pages (h : LiveK w0 w F q S) (t : Int) : Calls Try.prog 20 #[.pointer (some ⟨q, 0, none⟩), .int .i64 t] w fun e w' => ∃ a cap, e = .returned (.slice a (S.pages t).length cap) ∧ Reads w' (.slice a (S.pages t).length cap) (numsV (S.pages t)) ∧ LiveK w0 w' F q S ∧ Below w.heap.size w w' := by
  refine (lkPages_any h.lock t).mono ?_
  rintro e w1 ⟨v, rfl, ho, hb⟩
  obtain ⟨a, cap, rfl⟩ : ∃ a cap, v = .slice a (S.pages t).length cap := by
    rcases own_any ho with ⟨rfl, h0, _⟩ | ⟨g, cap, rfl, _⟩
    · exact ⟨none, 0, by rw [h0]⟩
    · exact ⟨_, _, rfl⟩
  refine ⟨a, cap, rfl, ?_, h.more hb, hb⟩
  rcases own_any ho with ⟨e0, h0, hx⟩ | ⟨g, c, e0, h1, _⟩
  · rw [hx, h0]; exact Reads.empty _ _ _
  · cases e0
    have e : (numsV (S.pages t)).length = (S.pages t).length := numsV_len _
    refine ⟨_, _, by rw [e], by omega, fun j x hj => ⟨g, 0, rfl, ?_⟩⟩
    have := ho.cells (g := g) rfl j x hj
    have e1 : (⟨g, 0, none⟩ : Addr).add j = ⟨g, j, none⟩ := by unfold Addr.add; split <;> simp_all
    rw [e1] at this
    rw [Nat.zero_add]
    exact this
theorem copy (h : LiveK w0 w F q S) : Calls Try.prog 16 #[.pointer (some ⟨q, 0, none⟩)] w fun e w' => ∃ c F', e = .returned (.pointer (some ⟨c, 0, none⟩)) ∧ LiveK w0 w' F q S ∧ LiveK w0 w' F' c S ∧ (∀ b, F' b → ¬ F b) := by
  refine (lkCopy_any h.lock).mono ?_
  rintro e w1 ⟨c, F1, rfl, hl, hn, hb⟩
  exact ⟨c, F1, rfl, h.more hb, ⟨hl, fun b hb' => Nat.le_trans h.below.size (hn b hb'), below2 h.below hb⟩, fun b hb' hF => by have := h.lock.lt b hF; have := hn b hb'; omega⟩
end LiveK
section
variable {w : World}
theorem reads_cell {w : World} {a : Option Addr} {n cap : Nat} {vs : List Value} (h : Reads w (.slice a n cap) vs) {j : Nat} {x : Value} (hj : vs[j]? = some x) : ∃ b off, a = some ⟨b, off, none⟩ ∧ w.cell? ⟨b, off + j, none⟩ = some x ∧ n ≤ cap := by
  obtain ⟨a', cap', e, hc, hx⟩ := h
  simp only [Value.slice.injEq] at e
  obtain ⟨rfl, rfl, rfl⟩ := e
  obtain ⟨b, off, e, h⟩ := hx j x hj
  exact ⟨b, off, e, h, hc⟩
set_option maxRecDepth 100000 in
set_option maxHeartbeats 8000000 in
theorem refSame9_any (a b : Option Addr) (ca cb : Nat) (l : List Nat) (ha : Reads w (.slice a l.length ca) (numsV l)) (hb : Reads w (.slice b l.length cb) (numsV l)) (hl : l.length ≤ 1000) :
    Calls Try.prog 19 #[.slice a l.length ca, .slice b l.length cb] w fun e w' => e = .returned (.bool true) ∧ Below w.heap.size w w' := by
  have HA := Lib.hid ha
  have HB := Lib.hid hb
  have hlm : (l.length : Int) ≤ 9223372036854775807 := by omega
  clear ha hb
  go_enter Try.func19, Try.ntmps19
  go_wp2
  go_loopw [5] (fun i wr => ∃ k : Nat, k ≤ l.length ∧ i = .int .i64 k ∧ Below w.heap.size w wr) (fun i _ => (l.length - intOf i).toNat)
  case atStart => exact ⟨0, Nat.zero_le _, rfl, Below.refl _ _⟩
  case round =>
    obtain ⟨k, hk, rfl, hB⟩ := hrel
    by_cases hlt : k < l.length
    · have hv : (numsV l)[k]? = some (.int .i64 (l[k] : Nat)) := by simp [numsV, hlt]
      obtain ⟨g1, o1, rfl, c1, h1⟩ := reads_cell HA.out hv
      obtain ⟨g2, o2, rfl, c2, h2⟩ := reads_cell HB.out hv
      have d1 := (hB.cell (p := ⟨g1, o1 + k, none⟩) (World.block_lt_of_cell? w _ c1)).trans c1
      have d2 := (hB.cell (p := ⟨g2, o2 + k, none⟩) (World.block_lt_of_cell? w _ c2)).trans c2
      have HBB := Lib.hid hB
      have HLT := Lib.hid hlt
      have hlt' : (k : Int) < l.length := by omega
      clear c1 c2 hv hB
      generalize l[k] = x at *
      go_wp2
      go_region
      go_wp2
      exact ⟨⟨k + 1, HLT.out, by go_num, by first | exact HBB.out | exact HBB.out.drew⟩, by simp [intOf]; have := HLT.out; omega⟩
    · obtain rfl : k = l.length := by omega
      go_wp2
      go_ret
      exact ⟨rfl, hB⟩
end
end Go.Proofs.Ytkeonffkaopclaa
