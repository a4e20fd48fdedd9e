/- Package disk: none waits any more; the fuse; what is asked of a disk. -/
import Derived.Test.YtbjpnkjddfpmpaaDiskB
namespace Go.Proofs.Ytbjpnkjddfpmpaa
open Go.RowKit

section
variable {w : World} {F : Foot} {g : Nat} {d : Dk}
set_option maxRecDepth 100000 in
set_option maxHeartbeats 1000000 in
theorem dropWaits_any (h : IsDisk w F g d) :
    Calls Try.prog 28 #[.pointer (some ⟨g, 0, none⟩)] w fun e w' => e = .returned (.tuple #[]) ∧ IsDisk w' F g { d with waits := [] } ∧ Step F F w w' := by
  obtain ⟨ho, vs, vq, m, r⟩ := h
  obtain ⟨_, c1, c2, _⟩ := r.cells
  have f1 := r.frozen 1
  obtain ⟨a1, a2, _, a4, a5⟩ := r.head_set 1 (.slice none 0 0) r.safe
  obtain ⟨o, hrun, hm⟩ := clear_run _ m _ a4
  have e2 : (w.setCell ⟨g, 1, none⟩ (.slice none 0 0)).cell? ⟨g, 2, none⟩ = some (.map (some m)) := a1.cell 2
  have hs : Step F F w { (w.setCell ⟨g, 1, none⟩ (.slice none 0 0)) with heap := (w.setCell ⟨g, 1, none⟩ (.slice none 0 0)).heap.setIfInBounds m o } := (step_set r.fg).setObj r.fm o
  have hd : IsDisk { (w.setCell ⟨g, 1, none⟩ (.slice none 0 0)) with heap := (w.setCell ⟨g, 1, none⟩ (.slice none 0 0)).heap.setIfInBounds m o } F g { d with waits := [] } := by
    have far : ∀ b, b ≠ m → ((w.setCell ⟨g, 1, none⟩ (.slice none 0 0)).heap.setIfInBounds m o)[b]? = (w.setCell ⟨g, 1, none⟩ (.slice none 0 0)).heap[b]? := fun b hb => by
      rw [Array.getElem?_setIfInBounds, if_neg (Ne.symm hb)]
    refine ⟨⟨ho.pos, ho.le, ho.sect, fun x hx => (by cases hx), ho.fuse⟩, vs, .slice none 0 0, m, ?_⟩
    exact ⟨(far g r.gm).trans a1, own_keep a2 fun b hb => far b (fun e => r.sm (by rw [hb, e])), World.ownsRow_nil _ _ _ _, hm, r.fg, r.fm, r.fs, fun b hb => by simp [Value.ownBlock] at hb, fun b hb => by simpa using r.lt b hb⟩
  have HD := Lib.hid hd
  have HS := Lib.hid hs
  generalize (w.setCell ⟨g, 1, none⟩ (.slice none 0 0)).heap.setIfInBounds m o = hp at *
  clear hd hs hm a1 a2 a4 a5 r ho
  go_enter Try.func28, Try.ntmps28
  go_wp2
  go_end0
  exact ⟨rfl, HD.out, HS.out⟩

set_option maxRecDepth 100000 in
set_option maxHeartbeats 1000000 in
theorem arm_any (h : IsDisk w F g d) (k : Int) (hk : k < 9223372036854775808) :
    Calls Try.prog 12 #[.pointer (some ⟨g, 0, none⟩), .int .i64 k] w fun e w' => e = .returned (.tuple #[]) ∧ IsDisk w' F g (d.arm k) ∧ Step F F w w' := by
  obtain ⟨ho, vs, vq, m, r⟩ := h
  obtain ⟨_, _, _, _, c4, c5⟩ := r.cells
  have f4 := r.frozen 4
  have f5 := r.frozen 5
  have hoa := ho.arm k hk
  clear hk
  by_cases h0 : 0 ≤ k
  · have hd : IsDisk ((w.setCell ⟨g, 4, none⟩ (.bool true)).setCell ⟨g, 5, none⟩ (.int .i64 k)) F g (d.arm k) := by
      refine ⟨hoa, vs, vq, m, ?_⟩
      have e : d.arm k = { d with fuse := some k.toNat } := by simp [Dk.arm, h0]
      rw [e]
      obtain ⟨a1, a2, a3, a4, a5⟩ := r.head_set 4 (.bool true) r.safe
      have hb := a1.set 5 (.int .i64 k)
      have eb : ((diskCells vs vq m d.gone d.fuse.isSome (fuseOf d.fuse)).setIfInBounds 4 (.bool true)).setIfInBounds 5 (.int .i64 k) = diskCells vs vq m d.gone true (fuseOf (some k.toNat)) := by
        simp [diskCells, fuseOf, Int.toNat_of_nonneg h0]
      rw [eb] at hb
      have far : ∀ b, b ≠ g → ((w.setCell ⟨g, 4, none⟩ (.bool true)).setCell ⟨g, 5, none⟩ (.int .i64 k)).heap[b]? = (w.setCell ⟨g, 4, none⟩ (.bool true)).heap[b]? := fun b hb => heap_setCell_other _ ⟨g, 5, none⟩ b _ hb
      exact ⟨hb, own_keep a2 fun b hb => far b (fun e => r.gs (by rw [hb, e])), own_keep a3 fun b hb => far b (fun e => r.gq (by rw [hb, e])), a4.keep (far m r.gm.symm), r.fg, r.fm, r.fs, r.fq, fun b hb => by simpa [World.setCell] using r.lt b hb⟩
    have hs : Step F F w ((w.setCell ⟨g, 4, none⟩ (.bool true)).setCell ⟨g, 5, none⟩ (.int .i64 k)) := (step_set r.fg).set (p := ⟨g, 5, none⟩) r.fg _
    have HD := Lib.hid hd
    have HS := Lib.hid hs
    have hdec : decide (0 ≤ k) = true := by simpa using h0
    clear hd hs r ho hoa
    go_enter Try.func12, Try.ntmps12
    go_wp2
    go_end0
    exact ⟨rfl, HD.out, HS.out⟩
  · have hd : IsDisk ((w.setCell ⟨g, 4, none⟩ (.bool false)).setCell ⟨g, 5, none⟩ (.int .i64 0)) F g (d.arm k) := by
      refine ⟨hoa, vs, vq, m, ?_⟩
      have e : d.arm k = { d with fuse := none } := by simp [Dk.arm, h0]
      rw [e]
      obtain ⟨a1, a2, a3, a4, a5⟩ := r.head_set 4 (.bool false) r.safe
      have hb := a1.set 5 (.int .i64 0)
      have eb : ((diskCells vs vq m d.gone d.fuse.isSome (fuseOf d.fuse)).setIfInBounds 4 (.bool false)).setIfInBounds 5 (.int .i64 0) = diskCells vs vq m d.gone false (fuseOf none) := by
        simp [diskCells, fuseOf]
      rw [eb] at hb
      have far : ∀ b, b ≠ g → ((w.setCell ⟨g, 4, none⟩ (.bool false)).setCell ⟨g, 5, none⟩ (.int .i64 0)).heap[b]? = (w.setCell ⟨g, 4, none⟩ (.bool false)).heap[b]? := fun b hb => heap_setCell_other _ ⟨g, 5, none⟩ b _ hb
      exact ⟨hb, own_keep a2 fun b hb => far b (fun e => r.gs (by rw [hb, e])), own_keep a3 fun b hb => far b (fun e => r.gq (by rw [hb, e])), a4.keep (far m r.gm.symm), r.fg, r.fm, r.fs, r.fq, fun b hb => by simpa [World.setCell] using r.lt b hb⟩
    have hs : Step F F w ((w.setCell ⟨g, 4, none⟩ (.bool false)).setCell ⟨g, 5, none⟩ (.int .i64 0)) := (step_set r.fg).set (p := ⟨g, 5, none⟩) r.fg _
    have HD := Lib.hid hd
    have HS := Lib.hid hs
    have hdec : decide (0 ≤ k) = false := by simpa using h0
    have hmax : max k 0 = 0 := by omega
    clear hd hs r ho hoa
    go_enter Try.func12, Try.ntmps12
    go_wp2
    go_end0
    exact ⟨rfl, HD.out, HS.out⟩
set_option maxRecDepth 100000 in
theorem arm_nil (k : Int) (w : World) : Calls Try.prog 12 #[.pointer none, .int .i64 k] w fun e w' => e = .returned (.tuple #[]) ∧ w = w' := by
  go_enter Try.func12, Try.ntmps12
  go_wp2
  go_end0
  exact ⟨rfl, rfl⟩

set_option maxRecDepth 100000 in
theorem dead_any (h : IsDisk w F g d) : Calls Try.prog 20 #[.pointer (some ⟨g, 0, none⟩)] w fun e w' => e = .returned (.bool d.gone) ∧ w = w' := by
  obtain ⟨_, vs, vq, m, r⟩ := h
  obtain ⟨_, _, _, c3, _⟩ := r.cells
  clear r
  go_enter Try.func20, Try.ntmps20
  go_wp2
  go_ret
  exact ⟨rfl, rfl⟩
set_option maxRecDepth 100000 in
theorem dead_nil (w : World) : Calls Try.prog 20 #[.pointer none] w fun e w' => e = .returned (.bool false) ∧ w = w' := by
  go_enter Try.func20, Try.ntmps20
  go_wp2
  go_ret
  exact ⟨rfl, rfl⟩
theorem own_len {base size n : Nat} {e : TypeId} {v : Value} {xs : List Value} (h : w.ownsRow base e size v n xs) : ∃ a cap, v = .slice a n cap ∧ n ≤ maxLen := by
  obtain ⟨_, ⟨rfl, rfl⟩ | ⟨g, cap, cur, rfl, _, _, h1, h2, _⟩⟩ := h
  · exact ⟨none, 0, rfl, Nat.zero_le _⟩
  · exact ⟨_, _, rfl, Nat.le_trans h1 h2⟩
set_option maxRecDepth 100000 in
theorem size_any (h : IsDisk w F g d) : Calls Try.prog 34 #[.pointer (some ⟨g, 0, none⟩)] w fun e w' => e = .returned (.int .i64 d.safe.length) ∧ w = w' := by
 obtain ⟨_, vs, vq, m, r⟩ := h
 obtain ⟨a, cap, rfl, _⟩ := own_len r.safe
 obtain ⟨c0, _⟩ := r.cells
 clear r
 go_enter Try.func34, Try.ntmps34
 go_wp2
 go_ret
 exact ⟨rfl, rfl⟩
set_option maxRecDepth 100000 in
theorem size_nil (w : World) : Calls Try.prog 34 #[.pointer none] w fun e w' => e = .returned (.int .i64 0) ∧ w = w' := by
 go_enter Try.func34, Try.ntmps34
 go_wp2
 go_ret
 exact ⟨rfl, rfl⟩
end
end Go.Proofs.Ytbjpnkjddfpmpaa
