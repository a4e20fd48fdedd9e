/- Package disk: the small calls, continued. -/
import Derived.Test.YtbjpnkjddfpmpaaDiskA
namespace Go.Proofs.Ytbjpnkjddfpmpaa
open Go.RowKit

section
variable {w : World} {F : Foot} {g : Nat} {d : Dk}
theorem step_set {v : Value} {i : Nat} (hg : F g) : Step F F w (w.setCell ⟨g, i, none⟩ v) := (Step.refl F w).set (p := ⟨g, i, none⟩) hg v

set_option maxRecDepth 100000 in
set_option maxHeartbeats 1000000 in
theorem bears_any (h : IsDisk w F g d) (b : Bool) (hb : b = d.bears) :
    Calls Try.prog 41 #[.pointer (some ⟨g, 0, none⟩)] w fun e w' => e = .returned (.bool b) ∧ IsDisk w' F g d.burn ∧ Step F F w w' := by
  obtain ⟨ho, vs, vq, m, r⟩ := h
  have hob := ho.burn
  obtain ⟨_, _, _, c3, c4, c5⟩ := r.cells
  have f3 := r.frozen 3
  have f5 := r.frozen 5
  have hsg := fun v i => @step_set w F g v i r.fg
  obtain ⟨safe, waits, gone, fuse⟩ := d
  cases fuse with
  | none =>
    cases gone with
    | false =>
      obtain rfl : b = true := hb
      have hd : IsDisk w F g (Dk.mk safe waits false none).burn := ⟨hob, vs, vq, m, r⟩
      have HD := Lib.hid hd
      clear hd r ho hob hsg
      go_enter Try.func41, Try.ntmps41
      go_wp2
      go_ret
      exact ⟨rfl, HD.out, Step.refl _ _⟩
    | true =>
      obtain rfl : b = false := hb
      have hd : IsDisk w F g (Dk.mk safe waits true none).burn := ⟨hob, vs, vq, m, r⟩
      have HD := Lib.hid hd
      clear hd r ho hob hsg
      go_enter Try.func41, Try.ntmps41
      go_wp2
      go_ret
      exact ⟨rfl, HD.out, Step.refl _ _⟩
  | some f =>
    cases f with
    | zero =>
      obtain rfl : b = false := by rw [hb]; cases gone <;> rfl
      have hd : IsDisk (w.setCell ⟨g, 3, none⟩ (.bool true)) F g (Dk.mk safe waits gone (some 0)).burn := by
        have e : (Dk.mk safe waits gone (some 0)).burn = Dk.mk safe waits true (some 0) := by cases gone <;> rfl
        refine ⟨hob, vs, vq, m, ?_⟩
        rw [e]
        exact r.setGone true
      have HD := Lib.hid hd
      have HS := Lib.hid (hsg (.bool true) 3)
      have e5 : ((0 : Int) == 0) = true := rfl
      change w.cell? _ = some (.int .i64 0) at c5
      clear hd r ho hob hsg hb
      go_enter Try.func41, Try.ntmps41
      go_wp2
      go_ret
      exact ⟨rfl, HD.out, HS.out⟩
    | succ f =>
      change w.cell? _ = some (.int .i64 ((f + 1 : Nat) : Int)) at c5
      have hlt := ho.fuse (f + 1) rfl
      have e5 : (((f + 1 : Nat) : Int) == 0) = false := by rw [beq_eq_false_iff_ne]; omega
      have ew : IntKind.i64.wrap (((f + 1 : Nat) : Int) - 1) = (f : Int) := by
        rw [IntKind.wrap_i64]; omega
      cases gone with
      | true =>
        obtain rfl : b = false := hb
        have hd : IsDisk w F g (Dk.mk safe waits true (some (f + 1))).burn := ⟨hob, vs, vq, m, r⟩
        have HD := Lib.hid hd
        generalize ((f + 1 : Nat) : Int) = x at *
        clear hd r ho hob hsg hlt ew
        go_enter Try.func41, Try.ntmps41
        go_wp2
        go_ret
        exact ⟨rfl, HD.out, Step.refl _ _⟩
      | false =>
        obtain rfl : b = true := hb
        have hd : IsDisk (w.setCell ⟨g, 5, none⟩ (.int .i64 (f : Int))) F g (Dk.mk safe waits false (some (f + 1))).burn :=
          ⟨hob, vs, vq, m, r.setArmed 5 (.int .i64 (f : Int)) (k := some f) (gone := false) rfl⟩
        have HD := Lib.hid hd
        have HS := Lib.hid (hsg (.int .i64 (f : Int)) 5)
        generalize ((f + 1 : Nat) : Int) = x at *
        generalize (f : Int) = y at *
        clear hd r ho hob hsg hlt
        go_enter Try.func41, Try.ntmps41
        go_wp2
        go_ret
        exact ⟨rfl, HD.out, HS.out⟩

set_option maxRecDepth 100000 in
set_option maxHeartbeats 1000000 in
theorem reach_any (h : IsDisk w F g d) (i : Int) (n : Nat) (hn : d.reachE i = n) :
    Calls Try.prog 29 #[.pointer (some ⟨g, 0, none⟩), .int .i64 i] w fun e w' => e = .returned (.int .i64 n) ∧ w = w' := by
  have hhas := has_any h i
  obtain ⟨ho, vs, vq, m, r⟩ := h
  obtain ⟨_, _, _, c3, _⟩ := r.cells
  unfold Dk.reachE at hn
  cases hg : d.gone with
  | true =>
    rw [hg] at hn c3
    obtain rfl : 4 = n := hn
    clear hhas r ho hg
    go_enter Try.func29, Try.ntmps29
    go_wp2
    go_ret
    exact ⟨rfl, rfl⟩
  | false =>
    rw [hg] at hn c3
    by_cases hi : d.has i
    · rw [if_pos hi] at hn
      obtain rfl : 0 = n := hn
      have H := Lib.hid (hhas true (by simp [hi]))
      clear hhas r ho hg hi
      go_enter Try.func29, Try.ntmps29
      go_wp2_with fail
      refine H.out.mono ?_
      rintro e w1 ⟨rfl, rfl⟩
      go_wp2
      go_ret
      exact ⟨rfl, rfl⟩
    · rw [if_neg hi] at hn
      obtain rfl : 2 = n := hn
      have H := Lib.hid (hhas false (by simp [hi]))
      clear hhas r ho hg hi
      go_enter Try.func29, Try.ntmps29
      go_wp2_with fail
      refine H.out.mono ?_
      rintro e w1 ⟨rfl, rfl⟩
      go_wp2
      go_ret
      exact ⟨rfl, rfl⟩
set_option maxRecDepth 100000 in
set_option maxHeartbeats 1000000 in
theorem reach_nil (i : Int) (w : World) : Calls Try.prog 29 #[.pointer none, .int .i64 i] w fun e w' => e = .returned (.int .i64 10) ∧ w = w' := by
  go_enter Try.func29, Try.ntmps29
  go_wp2
  go_ret
  exact ⟨rfl, rfl⟩

/-- Whoever has none waiting. -/
theorem clear_run (w : World) (m : Nat) (f : Int → Option Value) (h : IsMap w m f) : ∃ o, (Builtin.clear_ #[53] 0 #[.map (some m)]).run Try.prog w = .ok (.tuple #[]) { w with heap := w.heap.setIfInBounds m o } ∧ IsMap { w with heap := w.heap.setIfInBounds m o } m fun _ => none :=
  h.clear Try.underlying53 0
end
end Go.Proofs.Ytbjpnkjddfpmpaa
