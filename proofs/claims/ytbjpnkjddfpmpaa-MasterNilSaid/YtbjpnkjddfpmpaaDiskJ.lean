/- Package disk: a sector is lost, continued. -/
import Derived.Test.YtbjpnkjddfpmpaaDiskI
namespace Go.Proofs.Ytbjpnkjddfpmpaa
open Go.RowKit

section
variable {w : World} {F : Foot} {g : Nat} {d : Dk}
/-- Another row of writes that wait; the map not yet. -/
theorem RawF.rewait {W w1 : World} {f : Int → Option Value} {vs vq : Value} {m : Nat} (h : RawF W F g d f vs vq m) (l : List (Nat × ByteArray)) {v' : Value} (hown : w1.ownsRow 0 69 2 v' l.length (waitsV l))
    (hg : W.grownBy w1 vq.ownBlock) (hat : ∀ b, v'.ownBlock = some b → vq.ownBlock = some b) :
    RawF (w1.setCell ⟨g, 1, none⟩ v') F g { d with waits := l } f vs v' m ∧ Step F F W (w1.setCell ⟨g, 1, none⟩ v') := by
  have far : ∀ b, b < W.heap.size → vq.ownBlock ≠ some b → w1.heap[b]? = W.heap[b]? := fun b hb hne => hg.block b hb (Ne.symm hne)
  have lt := h.lt
  have hs : Step F F W w1 := (Step.refl F W).grown hg h.fq
  have hh : Blk w1 g 56 (diskCells vs vq m d.gone d.fuse.isSome (fuseOf d.fuse)) := (far g (lt g h.fg) h.gq).trans h.head
  have hv : v'.ownBlock ≠ some g := own_blk hown hh (by decide)
  have set : ∀ b, b ≠ g → (w1.setCell ⟨g, 1, none⟩ v').heap[b]? = w1.heap[b]? := fun b hb => heap_setCell_other w1 ⟨g, 1, none⟩ b _ hb
  refine ⟨⟨hh.set 1 v', ?_, ?_, ?_, h.fg, h.fm, h.fs, fun b hb => h.fq b (hat b hb), fun b hb => ?_⟩, hs.set (p := ⟨g, 1, none⟩) h.fg _⟩
  · exact own_keep h.safe fun b hb => (set b (fun e => h.gs (by rw [hb, e]))).trans (far b (lt b (h.fs b hb)) (h.sq hb))
  · exact own_keep (w' := w1.setCell ⟨g, 1, none⟩ v') hown fun b hb => set b (fun e => hv (by rw [hb, e]))
  · exact h.last.keep ((set m h.gm.symm).trans (far m (lt m h.fm) h.qm))
  · have := lt b hb; have := hg.size; simp [World.setCell]; omega
theorem drop_run {m : Nat} {f : Int → Option Value} (h : IsMap w m f) (i : Int) :
    ∃ o, (Builtin.delete_ #[53, 3] 0 #[.map (some m), .int .i64 i]).run Try.prog w = .ok (.tuple #[]) { w with heap := w.heap.setIfInBounds m o } ∧ IsMap { w with heap := w.heap.setIfInBounds m o } m fun c => if c = i then none else f c :=
  h.drop Try.underlying53 Try.underlying3 i 0
theorem lastV_kept (l : List (Nat × ByteArray)) (k : Nat) (c : Int) : (if c = (k : Int) then none else lastV l c) = lastV (kept l k) c := by
  unfold lastV kept
  rw [lastOf_filter]
  by_cases h : c = (k : Int)
  · rw [if_pos h, if_pos h]; rfl
  · rw [if_neg h, if_neg h]

set_option maxRecDepth 100000 in
set_option maxHeartbeats 4000000 in
theorem lose_ok (h : IsDisk w F g d) (k : Nat) (hr : d.reachE k = 0) :
    Calls Try.prog 16 #[.pointer (some ⟨g, 0, none⟩), .int .i64 k] w fun e w' => e = .returned (.int .i64 0) ∧ IsDisk w' F g (d.lose k) ∧ Step F F w w' := by
  have hok := h.1.lose k
  have hi : d.has k := by
    unfold Dk.reachE at hr
    split at hr
    · cases hr
    · split at hr
      · assumption
      · cases hr
  have hlose : d.lose k = { d with safe := d.safe.set k zero128, waits := kept d.waits k } := by unfold Dk.lose kept; rw [if_pos hr, Int.toNat_natCast]
  rw [hlose] at hok ⊢
  have hd0 := h.below ((Below.refl _ _).alloc (Nat.le_refl _) (.cells #[.int .i64 (k : Int)] 3))
  have H1 := Lib.hid (reach_any hd0 k 0 hr)
  obtain ⟨ho, vs, vq, m, r⟩ := hd0
  obtain ⟨b, cap, rfl, hcap⟩ := own_head ho r.safe
  obtain ⟨_, c1, _⟩ := r.cells
  have bc := Blk.new w 3 #[.int .i64 (k : Int)]
  have hcv : vq.ownBlock ≠ some w.heap.size := own_blk r.wait bc (by decide)
  have hcg : w.heap.size ≠ g := fun e => by have := h.lt g r.fg; omega
  have hlc : w.heap.size < (w.alloc (.cells #[.int .i64 (k : Int)] 3)).heap.size := by simp
  have s0 : Step F F w (w.alloc (.cells #[.int .i64 (k : Int)] 3)) := (Step.refl F w).alloc _
  have hm : w.heap.size ≠ m := fun e => by have := h.lt m r.fm; omega
  have hFc : ¬ F w.heap.size := fun e => by have := h.lt _ e; omega
  have HD := Lib.hid (delete_any d.waits k w.heap.size vq _ r.wait (bc.cell 0) hcv)
  have hk0 : (0 : Int) ≤ (k : Int) := Int.natCast_nonneg _
  have hk1 : (k : Int) < (d.safe.length : Int) := hi.2
  unfold ofSector at HD
  have HOK := Lib.hid hok
  have HS0 := Lib.hid s0
  have HR := Lib.hid r
  have HBC := Lib.hid bc
  have HLT : Hid (vq.ownBlock ≠ some w.heap.size ∧ w.heap.size ≠ g ∧ w.heap.size ≠ m ∧ ¬ F w.heap.size ∧ w.heap.size < (w.alloc (.cells #[.int .i64 (k : Int)] 3)).heap.size) := ⟨hcv, hcg, hm, hFc, hlc⟩
  clear hok s0 r bc hlose hr hcv hcg hm hFc hlc ho h hi
  go_enter Try.func16, Try.ntmps16
  go_wp2_with fail
  refine H1.out.mono ?_
  rintro e w1 ⟨rfl, rfl⟩
  go_wp2_with fail
  refine HD.out.mono ?_
  rintro e w2 ⟨v', rfl, hown, hg, hat⟩
  obtain ⟨a', cap', hv', _⟩ := own_len hown
  generalize (kept d.waits k).length = n' at hv'
  subst hv'
  obtain ⟨hcv, hcg, hm, hFc, hlc⟩ := HLT.out
  obtain ⟨r3, s3⟩ := HR.out.rewait (kept d.waits k) hown hg (fun b hb => by rw [← hat]; exact hb)
  have bc3 : Blk (w2.setCell ⟨g, 1, none⟩ (.slice a' n' cap')) w.heap.size 3 #[.int .i64 (k : Int)] := s3.block w.heap.size hlc hFc |>.trans HBC.out
  have lg : g < (w.alloc (.cells #[.int .i64 (k : Int)] 3)).heap.size := HR.out.lt g HR.out.fg
  have d1 := (hg.cell_far ⟨g, 1, none⟩ lg (Ne.symm HR.out.gq)).trans c1
  have f1 := (hg.frozen_far ⟨g, 1, none⟩ lg (Ne.symm HR.out.gq)).trans (HR.out.frozen 1)
  have s3' := HS0.out.trans s3
  clear s3 hown hg hat hcv hlc
  obtain ⟨o, hrun, hmap⟩ := drop_run r3.last.drew (k : Int)
  have r4 := (r3.drew).mapped o hmap
  have s4 := (s3'.drew).setObj r3.fm o
  have bc4 : Blk { (w2.setCell ⟨g, 1, none⟩ (.slice a' n' cap')).drew with heap := (w2.setCell ⟨g, 1, none⟩ (.slice a' n' cap')).drew.heap.setIfInBounds m o } w.heap.size 3 #[.int .i64 (k : Int)] := by
    refine (show _ = _ from ?_ : _).trans bc3
    show ((w2.setCell ⟨g, 1, none⟩ (.slice a' n' cap')).heap.setIfInBounds m o)[w.heap.size]? = _
    rw [Array.getElem?_setIfInBounds, if_neg (Ne.symm hm)]
  obtain ⟨_, _, e2, _⟩ := r3.cells
  have e3 := bc3.cell 0
  have R4 := Lib.hid r4
  have S4 := Lib.hid s4
  have BC4 := Lib.hid bc4
  clear r3 s3' r4 s4 bc4 bc3 hmap
  go_wp2_with fail
  generalize w2.setCell ⟨g, 1, none⟩ (.slice a' n' cap') = w3 at *
  go_still_tail 5, (by kernel_rfl)
  go_wp2_with fail
  generalize w3.drew.heap.setIfInBounds m o = hp at *
  have hsafe0 : d.safe.length = ({ d with waits := kept d.waits k } : Dk).safe.length := rfl
  obtain ⟨u, hu⟩ : ∃ u, (strsV d.safe)[k]? = some u := ⟨_, List.getElem?_eq_getElem (by rw [strsV_len]; omega)⟩
  have HU := Lib.hid hu
  clear hu hrun e2 e3 c1 d1 f1 hm hcg hFc hsafe0
  refine' wp_region_conf 7 [.is _, .is _, .is _, .is _, .is _, .is _, .is _] (by kernel_rfl) (by kernel_rfl) (by kernel_rfl) (by kernel_rfl) rfl ?main
  case main =>
    iterate 7
      refine obs_is (fun w5 hE2 _ => ?_) ?_
      · have r2 := R4.out.drew.below hE2
        have bx := BC4.out.drew.keep hE2 BC4.out.lt
        have b0 := bx.cell 0
        obtain ⟨d0, _⟩ := r2.cells
        clear r2 bx
        go_wp2_with (go_at_call 18; refine (zero_any _).mono ?_; rintro e w6 ⟨rfl, hb3⟩)
        first | exact post_is hb3 | exact post_is (Below.refl _ _)
      simp only [Act.put, List.setIfInBounds_toArray, List.set_cons_zero, List.set_cons_succ]
    refine obs_end fun w5 hE3 _ => ?_
    have r3 := R4.out.drew.below hE3
    have hsafe := r3.safe
    have e1 := (hsafe.cellAt k (by show k < d.safe.length * 1; omega)).trans HU.out
    have f1 := hsafe.frozenAt k
    obtain ⟨r2, s2⟩ := r3.stored rfl k zero128
    have R2 : Hid (IsDisk (w5.setCell ⟨b, k, none⟩ (.string zero128)) F g { d with safe := d.safe.set k zero128, waits := kept d.waits k }) :=
      ⟨HOK.out, _, _, _, ⟨r2.head, r2.safe, r2.wait, r2.last.congr (lastV_kept _ _), r2.fg, r2.fm, r2.fs, r2.fq, r2.lt⟩⟩
    have S2 := Lib.hid ((S4.out.drew.more hE3).trans s2)
    clear r2 s2 hsafe r3
    change wpList _ _ _ _ _ _
    go_wp2
    go_ret
    exact ⟨rfl, R2.out, S2.out⟩
set_option maxRecDepth 100000 in
set_option maxHeartbeats 1000000 in
theorem lose_no (h : IsDisk w F g d) (i : Int) (n : Nat) (hr : d.reachE i = n) (hn : (n : Int) ≠ 0) :
    Calls Try.prog 16 #[.pointer (some ⟨g, 0, none⟩), .int .i64 i] w fun e w' => e = .returned (.int .i64 n) ∧ Below w.heap.size w w' := by
  have H := Lib.hid (reach_any (h.below ((Below.refl _ _).alloc (Nat.le_refl _) (.cells #[.int .i64 i] 3))) i n hr)
  have hne : ((n : Int) != 0) = true := by simpa using hn
  clear h hr
  go_enter Try.func16, Try.ntmps16
  go_wp2_with fail
  refine H.out.mono ?_
  rintro e w1 ⟨rfl, rfl⟩
  go_wp2
  go_ret
  exact ⟨rfl, (Below.refl _ _).alloc (Nat.le_refl _) _⟩
set_option maxRecDepth 100000 in
theorem lose_nil (i : Int) (w : World) : Calls Try.prog 16 #[.pointer none, .int .i64 i] w fun e w' => e = .returned (.int .i64 10) ∧ Below w.heap.size w w' := by
  go_enter Try.func16, Try.ntmps16
  go_wp2_with fail
  refine (reach_nil i _).mono ?_
  rintro e w1 ⟨rfl, rfl⟩
  go_wp2
  go_ret
  exact ⟨rfl, (Below.refl _ _).alloc (Nat.le_refl _) _⟩
theorem lose_any (h : IsDisk w F g d) (i : Int) :
    Calls Try.prog 16 #[.pointer (some ⟨g, 0, none⟩), .int .i64 i] w fun e w' => e = .returned (.int .i64 (d.reachE i)) ∧ IsDisk w' F g (d.lose i) ∧ Step F F w w' := by
  by_cases hr : d.reachE i = 0
  · have h0 : 0 ≤ i := by
      unfold Dk.reachE at hr
      split at hr
      · cases hr
      · split at hr
        · rename_i hi; exact hi.1
        · cases hr
    obtain ⟨k, rfl⟩ := Int.eq_ofNat_of_zero_le h0
    rw [hr]
    exact lose_ok h k hr
  · have e : d.lose i = d := by unfold Dk.lose; rw [if_neg hr]
    rw [e]
    exact (lose_no h i _ rfl (by omega)).mono fun e w' k => ⟨k.1, h.below k.2, Step.ofBelow k.2⟩
end
end Go.Proofs.Ytbjpnkjddfpmpaa
