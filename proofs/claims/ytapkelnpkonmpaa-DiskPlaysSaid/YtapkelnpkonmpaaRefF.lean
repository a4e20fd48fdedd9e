/- The document's own disk: a new one. -/
import Derived.Test.YtapkelnpkonmpaaRefE
namespace Go.Proofs.Ytapkelnpkonmpaa
open Go.RowKit

/-- Another row of sectors. -/
theorem RefRaw.resafe {W w1 : World} {F : Foot} {g : Nat} {d : Dk} {vs vq : Value} (h : RefRaw W F g d vs vq) (l : List ByteArray) {v' : Value} (hown : w1.ownsRow 0 9 1 v' l.length (strsV l))
    (hst : Step F F W w1) (hfar : ∀ b, b < W.heap.size → vs.ownBlock ≠ some b → w1.heap[b]? = W.heap[b]?) (hat : ∀ b, v'.ownBlock = some b → F b ∨ W.heap.size ≤ b) :
    RefRaw (w1.setCell ⟨g, 0, none⟩ v') (fun b => F b ∨ v'.ownBlock = some b) g { d with safe := l } v' vq ∧ Step F (fun b => F b ∨ v'.ownBlock = some b) W (w1.setCell ⟨g, 0, none⟩ v') := by
  have lt := h.lt
  have hh : Blk w1 g 43 (refCells vs vq d.gone (refFuse d.fuse)) := (hfar g (lt g h.fg) h.gs).trans h.head
  have hv : v'.ownBlock ≠ some g := own_blk hown hh (by decide)
  have set : ∀ b, b ≠ g → (w1.setCell ⟨g, 0, none⟩ v').heap[b]? = w1.heap[b]? := fun b hb => heap_setCell_other w1 ⟨g, 0, none⟩ b _ hb
  have hs2 : Step F (fun b => F b ∨ v'.ownBlock = some b) W w1 := ⟨hst.os, hst.tape, hst.output, hst.size, hst.block, fun b hb => hb.elim .inl (hat b)⟩
  refine ⟨⟨hh.set 0 v', ?_, ?_, .inl h.fg, fun b hb => .inr hb, fun b hb => .inl (h.fq b hb), fun b hb => ?_⟩, hs2.set (p := ⟨g, 0, none⟩) (.inl h.fg) _⟩
  · exact own_keep (w' := w1.setCell ⟨g, 0, none⟩ v') hown fun b hb => set b (fun e => hv (by rw [hb, e]))
  · exact own_keep h.wait fun b hb => (set b (fun e => h.gq (by rw [hb, e]))).trans (hfar b (lt b (h.fq b hb)) (fun e => h.sq e hb))
  · show b < (w1.setCell _ _).heap.size
    rcases hb with hb | hb
    · have := lt b hb; have := hst.size; simp [World.setCell]; omega
    · have := (hown.lt b hb).2; simpa [World.setCell] using this
def Dk.amid (k : Nat) : Dk := ⟨List.replicate k zero128, [], false, none⟩
theorem amid_len (k : Nat) : (Dk.amid k).safe.length = k := by simp [Dk.amid]
theorem amid_snoc (k : Nat) : List.replicate k zero128 ++ [zero128] = List.replicate (k + 1) zero128 := by rw [List.replicate_succ']
theorem ref_start (w : World) : RefRaw (w.alloc (.cells (refCells (.slice none 0 0) (.slice none 0 0) false (-1)) 43)) (fun b => b = w.heap.size) w.heap.size (Dk.amid 0) (.slice none 0 0) (.slice none 0 0) :=
  ⟨Blk.new _ _ _, World.ownsRow_nil _ _ _ _, World.ownsRow_nil _ _ _ _, rfl, fun b hb => by simp [Value.ownBlock] at hb, fun b hb => by simp [Value.ownBlock] at hb, fun b hb => by rw [hb]; simp⟩

set_option maxRecDepth 100000 in
set_option maxHeartbeats 8000000 in
theorem refNew_any (n : Nat) (w : World) (hn : n ≤ 40) :
    Calls Try.prog 12 #[.int .i64 n] w fun e w' => ∃ g F, e = .returned (.pointer (some ⟨g, 0, none⟩)) ∧ IsRef w' F g (Dk.new n) ∧ (∀ b, F b → w.heap.size ≤ b) ∧ Below w.heap.size w w' := by
  obtain ⟨i0, hi0, hz0, hz1, hz2⟩ := info_parts info_string
  have HS := Lib.hid (ref_start w)
  go_enter Try.func12, Try.ntmps12
  go_wp2
  go_loopw [4] (fun vk wr => ∃ (k : Nat) (F : Foot) (vs : Value), k ≤ n ∧ vk = .int .i64 k ∧ RefRaw wr F w.heap.size (Dk.amid k) vs (.slice none 0 0) ∧ (∀ b, F b → w.heap.size ≤ b) ∧ Below w.heap.size w wr) (fun vk _ => n - (intOf vk).toNat)
  case atStart => exact ⟨0, _, _, Nat.zero_le _, rfl, HS.out, fun b hb => by rw [hb]; exact Nat.le_refl _, (Below.refl _ _).alloc (Nat.le_refl _) _⟩
  case round =>
    obtain ⟨k, F, vs, hk, rfl, hr, hF, hb⟩ := hrel
    clear HS
    by_cases hlt : k < n
    · obtain ⟨va, vc, hvs⟩ := own_slice hr.safe
      rw [amid_len] at hvs
      subst hvs
      have HR := Lib.hid hr
      have HB := Lib.hid hb
      have HF := Lib.hid hF
      clear hr hb hF
      go_wp2_with fail
      refine' wp_region_free [0] 7 [.is (.pointer (some ⟨w.heap.size, 0, none⟩)), .is _, .is _, .is _, .is _, .is _, .slice wr.heap.size 1 9 #[.string zero128]] (by kernel_rfl) (by kernel_rfl) (by kernel_rfl) (by kernel_rfl) (by kernel_rfl) rfl ⟨rfl, trivial⟩ (fun _ _ _ _ _ h => h) ?main
      case main =>
        iterate 6
          refine obs_is (fun w5 hE2 _ => ?_) ?_
          · have r2 := HR.out.drew.below hE2
            obtain ⟨d0, _⟩ := r2.cells
            clear r2
            go_wp2_with (go_at_call 31; refine (refZero_any _).mono ?_; rintro e w3 ⟨rfl, hb3⟩)
            first | exact post_is hb3 | exact post_is (Below.refl _ _)
          simp only [Act.put, List.setIfInBounds_toArray, List.set_cons_zero, List.set_cons_succ]
        refine obs_slice (fun w5 hE2 _ => ?_) (fun q => ?_)
        · go_wp2
          exact ⟨_, rfl, ⟨w5.heap.size, hE2.size, rfl, Blk.new _ _ _⟩, (Below.refl _ _).alloc (Nat.le_refl _) _⟩
        simp only [Act.put, List.setIfInBounds_toArray, List.set_cons_zero, List.set_cons_succ]
        refine obs_end fun w5 hE3 hkn => ?_
        obtain ⟨g2, _, rfl, hb2⟩ := hkn _ (List.mem_cons_self)
        have r3 := HR.out.drew.below hE3
        have hB5 := Lib.hid (below2 HB.out.drew hE3)
        have hown := r3.safe
        have lg := r3.lt _ r3.fg
        have nq := r3.gs
        have c3 := r3.cells.1
        have f3 := r3.frozen 0
        have R3 := Lib.hid r3
        rw [amid_len] at hown
        clear r3 hkn
        go_wp2_with (at_builtin; refine wpList_append_own_at _ rfl (.tmp 16) (.tmp 18) 40 rfl 0 9 i0 (.string ⟨#[]⟩) 1 16 Try.underlying40 hi0 hz0 hz1 hz2 rfl (by decide) _ _ _ rfl hown ⟨g2, 0, none⟩ 1 1 [.string zero128] rfl rfl (World.news_of_block hb2) (by simp [Value.oneCell']) (by simp only [maxLen]; omega) (by omega) (Nat.zero_le _) ?_)
        intro v' w6 hown6 hgrow _ hat
        obtain ⟨r6, s6⟩ := R3.out.resafe (v' := v') (List.replicate (k + 1) zero128) (by
          rw [List.length_replicate, ← amid_snoc, show strsV (List.replicate k zero128 ++ [zero128]) = strsV (List.replicate k zero128) ++ [.string zero128] from by simp [strsV]]
          exact hown6) ((Step.refl F _).grown hgrow R3.out.fs) (fun b hb hne => hgrow.block b hb (Ne.symm hne)) (fun b hb => by
            rcases hat with e | e
            · rw [e] at hb; exact .inl (R3.out.fs b hb)
            · rw [e] at hb; cases hb; exact .inr (Nat.le_refl _))
        have hF6 : ∀ b, (F b ∨ v'.ownBlock = some b) → w.heap.size ≤ b := s6.from_ HF.out hB5.out.size
        have hB6 := s6.belowB HF.out hB5.out hB5.out.size
        have R6 := Lib.hid r6
        have HF6 := Lib.hid hF6
        have HB6 := Lib.hid hB6
        have f6 := (hgrow.frozen_far ⟨w.heap.size, 0, none⟩ lg (Ne.symm nq)).trans f3
        have c6 := (hgrow.cell_far ⟨w.heap.size, 0, none⟩ lg (Ne.symm nq)).trans c3
        obtain ⟨gg, cap, hv, _⟩ := own_len hown6
        subst hv
        clear r6 s6 hF6 hB6 hown6 hgrow hat hown c3 f3 hb2
        go_wp2
        go_roundw
        case rel => exact ⟨k + 1, _, _, by omega, by go_num, R6.out, HF6.out, HB6.out⟩
        case measure => simp [intOf]; omega
    · obtain rfl : k = n := by omega
      have HD : Hid (IsRef wr F w.heap.size (Dk.new k)) := ⟨_, _, hr⟩
      clear hr
      go_wp2
      go_ret
      exact ⟨_, _, rfl, HD.out, hF, hb⟩
end Go.Proofs.Ytapkelnpkonmpaa
