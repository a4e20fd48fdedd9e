/- The document's own disk: a sector is written; what waits is made safe. -/
import Derived.Test.YtapkelnpkonmpaaRefA
namespace Go.Proofs.Ytapkelnpkonmpaa
open Go.RowKit

theorem info_refwrite : (Try.prog.info? 71).map (fun i => (i.zero, i.size, i.bytes)) = some (some (.agg #[.int .i64 0, .string ⟨#[]⟩]), 2, 24) := by kernel_rfl

section
variable {w : World} {F : Foot} {g : Nat} {d : Dk}
set_option maxRecDepth 100000 in
set_option maxHeartbeats 4000000 in
theorem refWrite_ok (ho : d.Ok) (h : IsRef w F g d) (k : Nat) (s : ByteArray) (hi : d.has k) (hs : s.size = 128) (hbear : d.bears = true) (hl : d.waits.length < 16777216) :
    Calls Try.prog 15 #[.pointer (some ⟨g, 0, none⟩), .int .i64 k, .string s] w fun e w' => e = .returned (.int .i64 0) ∧ ∃ F', IsRef w' F' g { d.burn with waits := d.waits ++ [(k, s)] } ∧ Step F F' w w' := by
  obtain ⟨i0, hi0, hz0, hz1, hz2⟩ := info_parts info_refwrite
  have H2 := Lib.hid (borne_any h ho.fuse true hbear.symm)
  have hne : ((s.size : Int) != 128) = false := by simp [hs]
  have hk0 : decide ((k : Int) < 0) = false := by simp
  have hk1 : decide (d.safe.length ≤ k) = false := by have := hi.2; simp; omega
  have hk1 : ¬ d.safe.length ≤ k := by simpa using hk1
  have hbw := Dk.burn_waits d
  rw [← hbw] at hl
  have HW := Lib.hid hbw
  obtain ⟨vs, vq, r⟩ := h
  obtain ⟨b, cap, rfl, hcap⟩ := own_head ho r.safe
  obtain ⟨c0, _⟩ := r.cells
  have hn := ho.le
  generalize d.safe.length = n at *
  generalize hB : d.burn = D at *
  have HB := Lib.hid hB
  clear hi hs hbear hbw hB r ho
  go_enter Try.func15, Try.ntmps15
  go_wp2_with fail
  refine H2.out.mono ?_
  rintro e w1 ⟨rfl, ⟨vs, vq, r1⟩, hs1⟩
  have rW := r1.below ((Below.refl _ _).alloc (Nat.le_refl _) (.cells #[.int .i64 (k : Int), .string s] 71))
  obtain ⟨_, c1, _⟩ := r1.cells
  have f1 := rW.frozen 1
  have lg := r1.lt g r1.fg
  have lg2 := rW.lt g rW.fg
  have hown := rW.wait
  have nq := rW.gq
  have RW := Lib.hid rW
  have HS1 := Lib.hid hs1
  clear r1 rW hs1
  go_wp2_with (at_builtin; refine wpList_append_own_at _ rfl (.tmp 28) (.tmp 32) 41 rfl 0 71 i0 (.agg #[.int .i64 0, .string ⟨#[]⟩]) 2 24 Try.underlying41 hi0 hz0 hz1 hz2 rfl (by decide) vq _ _ rfl hown ⟨w1.heap.size, 0, none⟩ 1 1 [.int .i64 k, .string s] rfl rfl (World.news_of_block (cs := #[.int .i64 k, .string s]) (t := 71) (fr := (0, 0)) (heap_alloc_new w1 _)) (by simp [Value.oneCell']) (by simp only [maxLen]; omega) (by omega) (Nat.zero_le _) ?_)
  intro v' w3 hown3 hgrow _ hat
  have hfar : ∀ b, b < (w1.alloc (.cells #[.int .i64 (k : Int), .string s] 71)).heap.size → vq.ownBlock ≠ some b → w3.heap[b]? = (w1.alloc (.cells #[.int .i64 (k : Int), .string s] 71)).heap[b]? := fun b hb hne => hgrow.block b hb (Ne.symm hne)
  obtain ⟨r3, s3⟩ := RW.out.rewait (v' := v') (D.waits ++ [(k, s)]) (by rw [List.length_append, waitsV_snoc]; exact hown3) ((Step.refl F _).grown hgrow RW.out.fq) hfar (fun b hb => by
    rcases hat with e | e
    · rw [e] at hb; exact .inl (RW.out.fq b hb)
    · rw [e] at hb; cases hb; exact .inr (by simp))
  have hfin : IsRef (w3.setCell ⟨g, 1, none⟩ v') (fun b => F b ∨ v'.ownBlock = some b) g { D with waits := d.waits ++ [(k, s)] } := by rw [← HW.out]; exact ⟨_, _, r3⟩
  have R3 := Lib.hid hfin
  have S3 := Lib.hid ((HS1.out.alloc (.cells #[.int .i64 (k : Int), .string s] 71)).trans s3)
  have f3 := (hgrow.frozen_far ⟨g, 1, none⟩ lg2 (Ne.symm nq)).trans f1
  have c3 := (hgrow.cell_far ⟨g, 1, none⟩ lg2 (Ne.symm nq)).trans (RW.out.cells).2.1
  obtain ⟨gg, cap, hv, _⟩ := own_len hown3
  subst hv
  clear r3 s3 hfin hown3 hgrow hat hfar hown f1 c1
  go_wp2
  go_ret
  exact ⟨rfl, _, R3.out, S3.out⟩
set_option maxRecDepth 100000 in
set_option maxHeartbeats 1000000 in
theorem refWrite_range (ho : d.Ok) (h : IsRef w F g d) (i : Int) (s : ByteArray) (hi : ¬ d.has i) :
    Calls Try.prog 15 #[.pointer (some ⟨g, 0, none⟩), .int .i64 i, .string s] w fun e w' => e = .returned (.int .i64 2) ∧ w = w' := by
  obtain ⟨vs, vq, r⟩ := h
  obtain ⟨b, cap, rfl, hcap⟩ := own_head ho r.safe
  obtain ⟨c0, _⟩ := r.cells
  have hn := ho.le
  unfold Dk.has at hi
  generalize d.safe.length = n at *
  clear r ho
  by_cases h0 : i < 0
  · have hk0 : decide (i < 0) = true := by simpa using h0
    clear hi h0
    go_enter Try.func15, Try.ntmps15
    go_wp2
    go_ret
    exact ⟨rfl, rfl⟩
  · have hk0 : decide (i < 0) = false := by simpa using h0
    have hk1 : decide ((n : Int) ≤ i) = true := by simp; omega
    clear hi h0
    go_enter Try.func15, Try.ntmps15
    go_wp2
    go_ret
    exact ⟨rfl, rfl⟩
set_option maxRecDepth 100000 in
set_option maxHeartbeats 1000000 in
theorem refWrite_size (ho : d.Ok) (h : IsRef w F g d) (i : Int) (s : ByteArray) (hi : d.has i) (hs : s.size ≠ 128) :
    Calls Try.prog 15 #[.pointer (some ⟨g, 0, none⟩), .int .i64 i, .string s] w fun e w' => e = .returned (.int .i64 1) ∧ w = w' := by
  have hne : ((s.size : Int) != 128) = true := by simp; omega
  obtain ⟨vs, vq, r⟩ := h
  obtain ⟨b, cap, rfl, hcap⟩ := own_head ho r.safe
  obtain ⟨c0, _⟩ := r.cells
  have hn := ho.le
  have hk0 : decide (i < 0) = false := by have := hi.1; simp; omega
  have hk1 : decide ((d.safe.length : Int) ≤ i) = false := by have := hi.2; simp; omega
  clear r ho hi hs
  go_enter Try.func15, Try.ntmps15
  go_wp2
  go_ret
  exact ⟨rfl, rfl⟩
set_option maxRecDepth 100000 in
set_option maxHeartbeats 1000000 in
theorem refWrite_dead (ho : d.Ok) (h : IsRef w F g d) (i : Int) (s : ByteArray) (hi : d.has i) (hs : s.size = 128) (hb : d.bears = false) :
    Calls Try.prog 15 #[.pointer (some ⟨g, 0, none⟩), .int .i64 i, .string s] w fun e w' => e = .returned (.int .i64 4) ∧ IsRef w' F g d.burn ∧ Step F F w w' := by
  have hne : ((s.size : Int) != 128) = false := by simp [hs]
  have H2 := Lib.hid (borne_any h ho.fuse false hb.symm)
  obtain ⟨vs, vq, r⟩ := h
  obtain ⟨b, cap, rfl, hcap⟩ := own_head ho r.safe
  obtain ⟨c0, _⟩ := r.cells
  have hn := ho.le
  have hk0 : decide (i < 0) = false := by have := hi.1; simp; omega
  have hk1 : decide ((d.safe.length : Int) ≤ i) = false := by have := hi.2; simp; omega
  clear r ho hi hs hb
  go_enter Try.func15, Try.ntmps15
  go_wp2_with fail
  refine H2.out.mono ?_
  rintro e w1 ⟨rfl, hd, hs⟩
  go_wp2
  go_ret
  exact ⟨rfl, hd, hs⟩
theorem refWrite_any (ho : d.Ok) (h : IsRef w F g d) (i : Int) (s : ByteArray) (hl : d.waits.length < 16777216) :
    Calls Try.prog 15 #[.pointer (some ⟨g, 0, none⟩), .int .i64 i, .string s] w fun e w' => e = .returned (.int .i64 (d.writeE i s)) ∧ ∃ F', IsRef w' F' g (d.write i s) ∧ Step F F' w w' := by
  unfold Dk.writeE Dk.write
  by_cases hi : d.has i
  · rw [if_pos hi, if_pos hi]
    by_cases hs : s.size = 128
    · rw [if_pos hs, if_pos hs]
      cases hb : d.bears with
      | true =>
        obtain ⟨k, rfl⟩ := Int.eq_ofNat_of_zero_le hi.1
        exact refWrite_ok ho h k s hi hs hb hl
      | false => exact (refWrite_dead ho h i s hi hs hb).mono fun e w' k => ⟨k.1, F, k.2⟩
    · rw [if_neg hs, if_neg hs]
      exact (refWrite_size ho h i s hi hs).mono fun e w' ⟨k1, k2⟩ => ⟨k1, F, k2 ▸ h, k2 ▸ Step.refl F w⟩
  · rw [if_neg hi, if_neg hi]
    exact (refWrite_range ho h i s hi).mono fun e w' ⟨k1, k2⟩ => ⟨k1, F, k2 ▸ h, k2 ▸ Step.refl F w⟩
end
end Go.Proofs.Ytapkelnpkonmpaa
