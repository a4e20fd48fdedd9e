/- Package disk: a crash. -/
import Derived.Test.YtbjpnkjddfpmpaaDiskF
import Derived.Test.YtbjpnkjddfpmpaaZero
import Derived.Test.YtbjpnkjddfpmpaaLists
import Derived.Test.YtbjpnkjddfpmpaaRegion
namespace Go.Proofs.Ytbjpnkjddfpmpaa
open Go.RowKit

/-- Bytes as values. -/
def byteVs (l : List UInt8) : List Value := l.map fun b => .int .u8 b.toNat
theorem byteVs_len (l : List UInt8) : (byteVs l).length = l.length := by simp [byteVs]
/-- A slice that lies apart from what is written reads as it did. -/
theorem Reads.step {w w' : World} {v : Value} {vs : List Value} {F F' : Foot} (h : Reads w v vs) (hs : Step F F' w w') (hn : vs ≠ [] → ∀ b, v.ownBlock = some b → ¬ F b) : Reads w' v vs := by
  obtain ⟨a, cap, rfl, hc, hx⟩ := h
  refine ⟨a, cap, rfl, hc, fun j x hj => ?_⟩
  obtain ⟨b, off, rfl, h⟩ := hx j x hj
  have hlt := World.block_lt_of_cell? w ⟨b, off + j, none⟩ h
  exact ⟨b, off, rfl, (World.cell?_of_block (a := ⟨b, off + j, none⟩) (hs.block b hlt (hn (fun e => by rw [e] at hj; simp at hj) b rfl))).trans h⟩

section
variable {w : World} {F : Foot} {g : Nat} {d : Dk}
set_option maxRecDepth 100000 in
set_option maxHeartbeats 1000000 in
theorem fate_core (b off L cap j y x n : Nat) (w : World) (hc : w.cell? ⟨b, off + y, none⟩ = some (.int .u8 x)) (h0 : ((L : Int) == 0) = false) (htm : Int.tmod (j : Int) (L : Int) = (y : Int)) (_hj0 : (0 : Int) ≤ j) (hy0 : (0 : Int) ≤ y) (hy : (y : Int) < L)
    (hx : Int.tmod (x : Int) 3 = (n : Int)) (_hx2 : (x : Int) % 3 = (n : Int)) (hem : (j : Int) % (L : Int) = (y : Int)) (_hx0 : (0 : Int) ≤ x) :
    Calls Try.prog 27 #[.slice (some ⟨b, off, none⟩) L cap, .int .i64 j] w fun e w' => e = .returned (.int .u8 n) ∧ w = w' := by
  go_enter Try.func27, Try.ntmps27
  go_wp2
  go_ret
  exact ⟨rfl, rfl⟩
set_option maxRecDepth 100000 in
set_option maxHeartbeats 1000000 in
theorem fate_any (v : Value) (p : List UInt8) (j n : Nat) (w : World) (hr : Reads w v (byteVs p)) (hn : fate p j = n) :
    Calls Try.prog 27 #[v, .int .i64 j] w fun e w' => e = .returned (.int .u8 n) ∧ w = w' := by
  unfold fate at hn
  rcases hr.cases with ⟨h0, a, cap, rfl⟩ | ⟨b, off, cap, rfl, hpos, hcap, hlt, hc⟩
  · obtain rfl : p = [] := by simpa [byteVs] using h0
    obtain rfl : 0 = n := hn
    clear hr h0
    go_enter Try.func27, Try.ntmps27
    go_wp2
    go_ret
    exact ⟨rfl, rfl⟩
  · rw [byteVs_len] at hpos hcap ⊢
    rw [if_neg (by omega)] at hn
    have hjm : j % p.length < p.length := Nat.mod_lt _ hpos
    have hcell := hc (j % p.length) (.int .u8 (p[j % p.length].toNat : Nat)) (by unfold byteVs; rw [List.getElem?_map, List.getElem?_eq_getElem hjm]; rfl)
    have hg : p.getD (j % p.length) 0 = p[j % p.length] := by rw [List.getD_eq_getElem?_getD, List.getElem?_eq_getElem hjm]; rfl
    rw [hg] at hn
    have hem : ((j : Int) % (p.length : Int)) = ((j % p.length : Nat) : Int) := by omega
    exact fate_core b off p.length cap j (j % p.length) p[j % p.length].toNat n w hcell (by rw [beq_eq_false_iff_ne]; omega) (by rw [Int.tmod_eq_emod_of_nonneg (Int.natCast_nonneg _)]; exact hem) (Int.natCast_nonneg _) (Int.natCast_nonneg _) (by omega)
      (by rw [Int.tmod_eq_emod_of_nonneg (Int.natCast_nonneg _)]; omega) (by omega) hem (Int.natCast_nonneg _)

/-- Another head, all else as it was. -/
theorem RawF.reheaded {w' : World} {f : Int → Option Value} {vs vq : Value} {m : Nat} (h : RawF w F g d f vs vq m) {gone : Bool} {k : Option Nat} (hb : Blk w' g 56 (diskCells vs vq m gone k.isSome (fuseOf k)))
    (far : ∀ b, b ≠ g → w'.heap[b]? = w.heap[b]?) (hs : w.heap.size ≤ w'.heap.size) : RawF w' F g { d with gone := gone, fuse := k } f vs vq m :=
  ⟨hb, own_keep h.safe fun b hb => far b (fun e => h.gs (by rw [hb, e])), own_keep h.wait fun b hb => far b (fun e => h.gq (by rw [hb, e])), h.last.keep (far m h.gm.symm), h.fg, h.fm, h.fs, h.fq, fun b hb => Nat.lt_of_lt_of_le (h.lt b hb) hs⟩
/-- The power is there again. -/
theorem reset (h : IsDisk w F g d) : IsDisk (((w.setCell ⟨g, 3, none⟩ (.bool false)).setCell ⟨g, 4, none⟩ (.bool false)).setCell ⟨g, 5, none⟩ (.int .i64 0)) F g { d with gone := false, fuse := none } ∧
    Step F F w (((w.setCell ⟨g, 3, none⟩ (.bool false)).setCell ⟨g, 4, none⟩ (.bool false)).setCell ⟨g, 5, none⟩ (.int .i64 0)) := by
  obtain ⟨ho, vs, vq, m, r⟩ := h
  have hb := ((r.head.set 3 (.bool false)).set 4 (.bool false)).set 5 (.int .i64 0)
  have far : ∀ (w : World) (i : Nat) (v : Value) b, b ≠ g → (w.setCell ⟨g, i, none⟩ v).heap[b]? = w.heap[b]? := fun w i v b hb => heap_setCell_other w ⟨g, i, none⟩ b v hb
  refine ⟨⟨⟨ho.pos, ho.le, ho.sect, ho.wait, fun f hf => (by cases hf)⟩, vs, vq, m, r.reheaded (gone := false) (k := none) hb (fun b h => (far _ 5 _ b h).trans ((far _ 4 _ b h).trans (far _ 3 _ b h))) (by simp [World.setCell])⟩, ?_⟩
  exact ((step_set r.fg).set (p := ⟨g, 4, none⟩) r.fg _).set (p := ⟨g, 5, none⟩) r.fg _

set_option maxRecDepth 100000 in
set_option maxHeartbeats 4000000 in
theorem crash_any (h : IsDisk w F g d) (v : Value) (p : List UInt8) (hr : Reads w v (byteVs p)) (hv : p ≠ [] → ∀ b, v.ownBlock = some b → ¬ F b) :
    Calls Try.prog 14 #[.pointer (some ⟨g, 0, none⟩), v] w fun e w' => e = .returned (.tuple #[]) ∧ IsDisk w' F g (d.crash p) ∧ Step F F w w' := by
  have hcr : d.crash p = { { d.part (fate p) d.waits.length with waits := [] } with gone := false, fuse := none } := rfl
  rw [hcr]
  clear hcr
  obtain ⟨ho, vs, vq, m, r⟩ := h
  obtain ⟨b, cap, rfl, hcap⟩ := own_head ho r.safe
  have hn := ho.le
  have HP := Lib.hid hr
  have HV : Hid (byteVs p ≠ [] → ∀ b, v.ownBlock = some b → ¬ F b) := fun h => hv (fun e => h (by rw [e]; rfl))
  clear hr hv
  rcases own_any r.wait with ⟨rfl, h0, _⟩ | ⟨q, capq, rfl, hq, hqm⟩
  · obtain ⟨_, c1, _⟩ := r.cells
    have hd : IsDisk w F g (d.part (fate p) d.waits.length) := by rw [h0]; exact ⟨ho, _, _, _, r⟩
    have HD := Lib.hid hd
    clear r ho h0 hd
    go_enter Try.func14, Try.ntmps14
    go_wp2
    refine wp_loop_rounds 1 ?_
    rw [rounds_succ]
    go_wp2_with fail
    refine (dropWaits_any HD.out).mono ?_
    rintro e w2 ⟨rfl, hd2, s2⟩
    obtain ⟨hf, sf⟩ := reset hd2
    obtain ⟨_, _, _, _, r2⟩ := hd2
    obtain ⟨_, _, _, d3, d4, d5⟩ := r2.cells
    have f3 := r2.frozen 3
    have f4 := r2.frozen 4
    have f5 := r2.frozen 5
    have HF := Lib.hid hf
    have SF := Lib.hid (s2.trans sf)
    clear hf sf s2 r2 c1
    go_wp2
    go_end0
    exact ⟨rfl, HF.out, SF.out⟩
  · obtain ⟨_, c1, _⟩ := r.cells
    have hl : d.waits.length ≤ 9223372036854775807 := by unfold maxLen at hqm; omega
    have hin : ∀ k (hk : k < d.waits.length), d.waits[k].1 < d.safe.length := fun k hk => (ho.wait _ (List.getElem_mem hk)).1
    have HIN := Lib.hid hin
    have HO := Lib.hid ho
    clear hin ho
    have HR : Hid (RawF w F g (d.part (fate p) 0) (lastV d.waits) (.slice (some ⟨b, 0, none⟩) d.safe.length cap) (.slice (some ⟨q, 0, none⟩) d.waits.length capq) m) := r
    clear r
    have hlen : ∀ k, (d.part (fate p) k).safe.length = d.safe.length := fun k => settleTo_len _ _ _ _
    have HL := Lib.hid hlen
    clear hlen
    go_enter Try.func14, Try.ntmps14
    go_wp2
    go_loopw [13] (fun i wr => ∃ k : Nat, k ≤ d.waits.length ∧ i = .int .i64 k ∧ RawF wr F g (d.part (fate p) k) (lastV d.waits) (.slice (some ⟨b, 0, none⟩) d.safe.length cap) (.slice (some ⟨q, 0, none⟩) d.waits.length capq) m ∧ Step F F w wr) (fun i _ => d.waits.length - (intOf i).toNat)
    case atStart => exact ⟨0, Nat.zero_le _, rfl, HR.out, Step.refl _ _⟩
    case round =>
      obtain ⟨k, hk, rfl, hr, hst⟩ := hrel
      clear c1
      by_cases hlt : k < d.waits.length
      · have hkl := hlt
        obtain ⟨e0, e1⟩ := waitsV_at d.waits k hkl
        have hw := hr.wait
        rw [show (d.part (fate p) k).waits = d.waits from rfl] at hw
        have q0 := (hw.cellAt (k * 2) (by omega)).trans e0
        have q1 := (hw.cellAt (k * 2 + 1) (by omega)).trans e1
        obtain ⟨c0, _⟩ := hr.cells
        have hi := HIN.out k hkl
        have hx0 : (0 : Int) ≤ (d.waits[k].1 : Int) := Int.natCast_nonneg _
        have hx1 : (d.waits[k].1 : Int) < (d.safe.length : Int) := by omega
        generalize hj : d.waits[k].1 = j at *
        generalize hs : d.waits[k].2 = s at *
        have HJ := Lib.hid hj
        have HS := Lib.hid hs
        clear hj hs hw e0 e1
        have rW := hr.below ((Below.refl _ _).alloc (Nat.le_refl _) (.cells #[.int .i64 (j : Int), .string s] 69))
        have sW := hst.alloc (.cells #[.int .i64 (j : Int), .string s] 69)
        have bx : Blk (wr.alloc (.cells #[.int .i64 (j : Int), .string s] 69)) wr.heap.size 69 #[.int .i64 (j : Int), .string s] := Blk.new _ _ _
        have hp := HP.out.step sW HV.out
        have hl1 : (d.part (fate p) k).safe.length = d.safe.length := HL.out k
        have hsafe := rW.safe
        rw [hl1] at hsafe
        obtain ⟨u, hu⟩ : ∃ u, (strsV (d.part (fate p) k).safe)[j]? = some u := ⟨_, List.getElem?_eq_getElem (by rw [strsV_len, hl1]; exact hi)⟩
        have hpart : ∀ n, fate p k = n → d.part (fate p) (k + 1) = { d.part (fate p) k with safe := settleOne n (j, s) (d.part (fate p) k).safe } := fun n hn => by
          unfold Dk.part
          rw [settleTo_succ _ _ _ _ hlt, hn]
          congr 2
          exact Prod.ext HJ.out HS.out
        have hf3 := fate_lt p k
        have RW := Lib.hid rW
        have SW := Lib.hid sW
        have BX := Lib.hid bx
        have HPK := Lib.hid hp
        have HPT := Lib.hid hpart
        have HSF := Lib.hid hsafe
        have HU := Lib.hid hu
        have HL1 := Lib.hid hl1
        clear rW sW bx hp hpart hsafe hu hl1 hr hst
        rcases (show fate p k = 0 ∨ fate p k = 1 ∨ fate p k = 2 by omega) with h0 | h1 | h2
        · have hF := fun W (hw : Reads W v (byteVs p)) => fate_any v p k 0 W hw h0
          have HF := Lib.hid hF
          have R2 : Hid (RawF (wr.alloc (.cells #[.int .i64 (j : Int), .string s] 69)) F g (d.part (fate p) (k + 1)) (lastV d.waits) (.slice (some ⟨b, 0, none⟩) d.safe.length cap) (.slice (some ⟨q, 0, none⟩) d.waits.length capq) m) := by
            have := RW.out
            show RawF _ _ _ _ _ _ _ _
            rw [HPT.out 0 h0]
            exact this
          clear hF h0 hf3 c0
          go_wp2_with fail
          refine (HF.out _ HPK.out).mono ?_
          rintro e w2 ⟨rfl, rfl⟩
          go_wp2
          go_roundw
          case rel => exact ⟨k + 1, by omega, by go_num, R2.out, SW.out⟩
          case measure => simp [intOf]; omega
        · have hF := fun W (hw : Reads W v (byteVs p)) => fate_any v p k 1 W hw h1
          have HF := Lib.hid hF
          have HH := Lib.hid h1
          clear hF h1 hf3 c0
          go_wp2_with fail
          refine (HF.out _ HPK.out).mono ?_
          rintro e w2 ⟨rfl, rfl⟩
          have rW := RW.out
          have bx := BX.out
          have hsafe := HSF.out
          have sW := SW.out
          clear RW BX HSF SW HPK q0 q1
          generalize wr.heap.size = x at *
          generalize wr.alloc (.cells #[.int .i64 (j : Int), .string s] 69) = W at *
          have b0 := bx.cell 0
          have b1 := bx.cell 1
          obtain ⟨d0, _⟩ := rW.cells
          have e1 := (hsafe.cellAt j (by omega)).trans HU.out
          have f1 := hsafe.frozenAt j
          obtain ⟨r2, s2⟩ := rW.drew.stored HL1.out.symm j s
          have R2 : Hid (RawF (W.drew.setCell ⟨b, j, none⟩ (.string s)) F g (d.part (fate p) (k + 1)) (lastV d.waits) (.slice (some ⟨b, 0, none⟩) d.safe.length cap) (.slice (some ⟨q, 0, none⟩) d.waits.length capq) m) := by
            show RawF _ _ _ _ _ _ _ _
            rw [HPT.out 1 HH.out]
            exact r2
          have S2 := Lib.hid (sW.drew.trans s2)
          clear r2 s2 hsafe rW sW bx
          go_wp2_with fail
          go_still_tail 9, (by kernel_rfl)
          go_wp2
          go_roundw
          case rel => exact ⟨k + 1, by omega, by go_num, R2.out, S2.out⟩
          case measure => simp [intOf]; omega
        · have hF := fun W (hw : Reads W v (byteVs p)) => fate_any v p k 2 W hw h2
          have HF := Lib.hid hF
          have HH := Lib.hid h2
          clear hF h2 hf3 c0
          go_wp2_with fail
          refine (HF.out _ HPK.out).mono ?_
          rintro e w2 ⟨rfl, rfl⟩
          have rW := RW.out
          have bx := BX.out
          have hsafe := HSF.out
          have sW := SW.out
          clear RW BX HSF SW HPK q0 q1
          generalize wr.heap.size = x at *
          generalize wr.alloc (.cells #[.int .i64 (j : Int), .string s] 69) = W at *
          have RW := Lib.hid rW
          have BX := Lib.hid bx
          have HSF := Lib.hid hsafe
          have SW := Lib.hid sW
          clear rW bx hsafe sW
          go_wp2_with fail
          refine' wp_region_conf 8 [.is _, .is _, .is _, .is _, .is _, .is _, .is _, .is _] (by kernel_rfl) (by kernel_rfl) (by kernel_rfl) (by kernel_rfl) rfl ?main
          case main =>
            iterate 8
              refine obs_is (fun w2 hE2 _ => ?_) ?_
              · have r2 := RW.out.drew.below hE2
                have bx := BX.out.drew.keep hE2 BX.out.lt
                have b0 := bx.cell 0
                have b1 := bx.cell 1
                obtain ⟨d0, _⟩ := r2.cells
                clear r2 bx
                go_wp2_with (go_at_call 18; refine (zero_any _).mono ?_; rintro e w3 ⟨rfl, hb3⟩)
                first | exact post_is hb3 | exact post_is (Below.refl _ _)
              simp only [Act.put, List.setIfInBounds_toArray, List.set_cons_zero, List.set_cons_succ]
            refine obs_end fun w3 hE3 _ => ?_
            have r3 := RW.out.drew.below hE3
            have hsafe := own_below HSF.out.drew hE3
            have e1 := (hsafe.cellAt j (by omega)).trans HU.out
            have f1 := hsafe.frozenAt j
            obtain ⟨r2, s2⟩ := r3.stored HL1.out.symm j zero128
            have R2 : Hid (RawF (w3.setCell ⟨b, j, none⟩ (.string zero128)) F g (d.part (fate p) (k + 1)) (lastV d.waits) (.slice (some ⟨b, 0, none⟩) d.safe.length cap) (.slice (some ⟨q, 0, none⟩) d.waits.length capq) m) := by
              show RawF _ _ _ _ _ _ _ _
              rw [HPT.out 2 HH.out]
              exact r2
            have S2 := Lib.hid ((SW.out.drew.more hE3).trans s2)
            clear r2 s2 hsafe r3
            change wpList _ _ _ _ _ _
            go_wp2
            go_roundw
            case rel => exact ⟨k + 1, by omega, by go_num, R2.out, S2.out⟩
            case measure => simp [intOf]; omega
      · obtain rfl : k = d.waits.length := by omega
        go_wp2_with fail
        refine (dropWaits_any (⟨HO.out.part _ _, _, _, _, hr⟩ : IsDisk wr F g (d.part (fate p) d.waits.length))).mono ?_
        rintro e w2 ⟨rfl, hd2, s2⟩
        obtain ⟨hf, sf⟩ := reset hd2
        obtain ⟨_, _, _, _, r2⟩ := hd2
        obtain ⟨_, _, _, d3, d4, d5⟩ := r2.cells
        have f3 := r2.frozen 3
        have f4 := r2.frozen 4
        have f5 := r2.frozen 5
        have HF := Lib.hid hf
        have SF := Lib.hid ((hst.trans s2).trans sf)
        clear hf sf s2 r2 hr hst
        go_wp2
        go_end0
        exact ⟨rfl, HF.out, SF.out⟩
set_option maxRecDepth 100000 in
theorem crash_nil (v : Value) (w : World) : Calls Try.prog 14 #[.pointer none, v] w fun e w' => e = .returned (.tuple #[]) ∧ w = w' := by
  go_enter Try.func14, Try.ntmps14
  go_wp2
  refine bodyPost_ret (results_none rfl _ _ _) rfl ?_
  exact ⟨rfl, rfl⟩
end
end Go.Proofs.Ytbjpnkjddfpmpaa
