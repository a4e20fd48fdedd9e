/- The document's own disk: a crash. -/
import Derived.Test.YtapkelnpkonmpaaRefC
namespace Go.Proofs.Ytapkelnpkonmpaa
open Go.RowKit

section
variable {w : World} {F : Foot} {g : Nat} {d : Dk}
/-- The power is there again, and nothing waits. -/
theorem RefRaw.reset {vs vq : Value} (h : RefRaw w F g d vs vq) :
    IsRef (((w.setCell ⟨g, 1, none⟩ (.slice none 0 0)).setCell ⟨g, 2, none⟩ (.bool false)).setCell ⟨g, 3, none⟩ (.int .i64 (-1))) F g ⟨d.safe, [], false, none⟩ ∧
    Step F F w (((w.setCell ⟨g, 1, none⟩ (.slice none 0 0)).setCell ⟨g, 2, none⟩ (.bool false)).setCell ⟨g, 3, none⟩ (.int .i64 (-1))) := by
  obtain ⟨r, s⟩ := h.dropped
  have hb := (r.head.set 2 (.bool false)).set 3 (.int .i64 (-1))
  have far : ∀ (w : World) (i : Nat) (v : Value) b, b ≠ g → (w.setCell ⟨g, i, none⟩ v).heap[b]? = w.heap[b]? := fun w i v b hb => heap_setCell_other w ⟨g, i, none⟩ b v hb
  refine ⟨⟨_, _, r.reheaded (gone := false) (k := none) hb (fun b h => (far _ 3 _ b h).trans (far _ 2 _ b h)) (by simp [World.setCell])⟩, ?_⟩
  exact (s.set (p := ⟨g, 2, none⟩) r.fg _).set (p := ⟨g, 3, none⟩) r.fg _

set_option maxRecDepth 100000 in
set_option maxHeartbeats 8000000 in
theorem refCrash_any (ho : d.Ok) (h : IsRef w F g d) (v : Value) (p : List UInt8) (hr : Reads w v (byteVs p)) (hv : p ≠ [] → ∀ b, v.ownBlock = some b → ¬ F b) :
    Calls Try.prog 20 #[.pointer (some ⟨g, 0, none⟩), v] w fun e w' => e = .returned (.tuple #[]) ∧ IsRef w' F g (d.crash p) ∧ Step F F w w' := by
  have hcr : d.crash p = ⟨(d.part (fate p) d.waits.length).safe, [], false, none⟩ := rfl
  rw [hcr]
  clear hcr
  obtain ⟨vs, vq, r⟩ := h
  obtain ⟨b, cap, rfl, hcap⟩ := own_head ho r.safe
  obtain ⟨qa, capq, rfl, hqm⟩ : ∃ qa capq, vq = .slice qa d.waits.length capq ∧ d.waits.length ≤ 9223372036854775807 := by
    rcases own_any r.wait with ⟨rfl, h0, _⟩ | ⟨q, capq, rfl, hq, hqm⟩
    · exact ⟨none, 0, by rw [h0], by omega⟩
    · exact ⟨_, capq, rfl, by unfold maxLen at hqm; omega⟩
  have hn := ho.le
  obtain ⟨pa, pcap, rfl⟩ : ∃ pa pcap, v = .slice pa p.length pcap := by
    obtain ⟨a, c, e, _⟩ := id hr
    rw [byteVs_len] at e
    exact ⟨a, c, e⟩
  have HP := Lib.hid hr
  have HV : Hid (byteVs p ≠ [] → ∀ b, (Value.slice pa p.length pcap).ownBlock = some b → ¬ F b) := fun h => hv (fun e => h (by rw [e]; rfl))
  clear hr hv
  have hin : ∀ k (hk : k < d.waits.length), d.waits[k].1 < d.safe.length := fun k hk => (ho.wait _ (List.getElem_mem hk)).1
  have HIN := Lib.hid hin
  clear hin ho
  have HR : Hid (RefRaw w F g (d.part (fate p) 0) (.slice (some ⟨b, 0, none⟩) d.safe.length cap) (.slice qa d.waits.length capq)) := r
  clear r
  have hlen : ∀ k, (d.part (fate p) k).safe.length = d.safe.length := fun k => settleTo_len _ _ _ _
  have HL := Lib.hid hlen
  clear hlen
  go_enter Try.func20, Try.ntmps20
  go_wp2
  go_loopw [4] (fun i wr => ∃ k : Nat, k ≤ d.waits.length ∧ i = .int .i64 k ∧ RefRaw wr F g (d.part (fate p) k) (.slice (some ⟨b, 0, none⟩) d.safe.length cap) (.slice qa d.waits.length capq) ∧ Step F F w wr) (fun i _ => d.waits.length - (intOf i).toNat)
  case atStart => exact ⟨0, Nat.zero_le _, rfl, HR.out, Step.refl _ _⟩
  case round =>
    obtain ⟨k, hk, rfl, hr, hst⟩ := hrel
    obtain ⟨c0, c1, _⟩ := hr.cells
    by_cases hlt : k < d.waits.length
    · have hkl := hlt
      rcases own_any hr.wait with ⟨_, h0, _⟩ | ⟨q, capq', hqe, _, _⟩
      · exact absurd h0 (by show d.waits.length ≠ 0; omega)
      simp only [Value.slice.injEq] at hqe
      obtain ⟨rfl, _, rfl⟩ := hqe
      obtain ⟨e0, e1⟩ := waitsV_at d.waits k hkl
      have hw := hr.wait
      rw [show (d.part (fate p) k).waits = d.waits from rfl] at hw
      have q0 := (hw.cellAt (k * 2) (by omega)).trans e0
      have q1 := (hw.cellAt (k * 2 + 1) (by omega)).trans e1
      have hi := HIN.out k hkl
      have hx0 : (0 : Int) ≤ (d.waits[k].1 : Int) := Int.natCast_nonneg _
      have hx1 : (d.waits[k].1 : Int) < (d.safe.length : Int) := by omega
      have HPT := Lib.hid (part_one d (fate p) k hkl)
      generalize d.waits[k].1 = j at *
      generalize d.waits[k].2 = s at *
      have hl1 : (d.part (fate p) k).safe.length = d.safe.length := HL.out k
      have hsafe := hr.safe
      rw [hl1] at hsafe
      have e1 := hsafe.cellAt j (by omega)
      obtain ⟨u, hu⟩ : ∃ u, (strsV (d.part (fate p) k).safe)[j]? = some u := ⟨_, List.getElem?_eq_getElem (by rw [strsV_len, hl1]; exact hi)⟩
      rw [hu] at e1
      have f1 := hsafe.frozenAt j
      have HRR := Lib.hid hr
      have HST := Lib.hid hst
      have HL1 := Lib.hid hl1
      have HSF := Lib.hid hsafe
      have HU := Lib.hid hu
      have HE0 := Lib.hid e0
      have hp := HP.out.step hst HV.out
      have hf3 := fate_lt p k
      clear hr hst hl1 hsafe hu hw e0
      rcases hp.cases with ⟨h0, a, cp, he⟩ | ⟨pb, off, cp, he, hpos, hcap, hltp, hc⟩
      · -- no picks
        have hp0 : p = [] := by simpa [byteVs] using h0
        have hF : fate p k = 0 := by rw [hp0]; rfl
        have hlp : p.length = 0 := by rw [hp0]; rfl
        have R2 : Hid (RefRaw wr F g (d.part (fate p) (k + 1)) (.slice (some ⟨b, 0, none⟩) d.safe.length cap) (.slice (some ⟨q, 0, none⟩) d.waits.length capq)) := by
          show RefRaw _ _ _ _ _ _
          rw [HPT.out 0 hF]
          exact HRR.out
        have hp00 : decide (0 < p.length) = false := by rw [hlp]; rfl
        have hp01 : ¬ 0 < p.length := by omega
        clear hp h0 he hF hlp hp0 hf3 hp00
        go_wp2
        go_roundw
        case rel => exact ⟨k + 1, by omega, by go_num, R2.out, HST.out⟩
        case measure => simp [intOf]; omega
      · rw [byteVs_len] at hpos hcap he
        simp only [Value.slice.injEq] at he
        obtain ⟨rfl, _, rfl⟩ := he
        have hjm : k % p.length < p.length := Nat.mod_lt _ hpos
        have hcell := hc (k % p.length) (.int .u8 (p[k % p.length].toNat : Nat)) (by unfold byteVs; rw [List.getElem?_map, List.getElem?_eq_getElem hjm]; rfl)
        have hg : p.getD (k % p.length) 0 = p[k % p.length] := by rw [List.getD_eq_getElem?_getD, List.getElem?_eq_getElem hjm]; rfl
        have hfx : fate p k = p[k % p.length].toNat % 3 := by unfold fate; rw [if_neg (by omega), hg]
        have hem : ((k : Int) % (p.length : Int)) = ((k % p.length : Nat) : Int) := by omega
        have htm : Int.tmod (k : Int) (p.length : Int) = ((k % p.length : Nat) : Int) := by rw [Int.tmod_eq_emod_of_nonneg (Int.natCast_nonneg _)]; exact hem
        have hz : ((p.length : Int) == 0) = false := by rw [beq_eq_false_iff_ne]; omega
        have hy0 : (0 : Int) ≤ ((k % p.length : Nat) : Int) := Int.natCast_nonneg _
        have hy1 : ((k % p.length : Nat) : Int) < (p.length : Int) := by omega
        have hxb := UInt8.toNat_lt p[k % p.length]
        have hwx : IntKind.i64.wrap ((p[k % p.length].toNat : Nat) : Int) = ((p[k % p.length].toNat : Nat) : Int) := by rw [IntKind.wrap_i64]; omega
        generalize k % p.length = y at *
        have hx3 : Int.tmod ((p[y].toNat : Nat) : Int) 3 = ((fate p k : Nat) : Int) := by rw [Int.tmod_eq_emod_of_nonneg (Int.natCast_nonneg _), hfx]; omega
        generalize p[y].toNat = x at *
        clear hp hc hg hfx hcap hltp hem hjm hxb
        rcases (show fate p k = 0 ∨ fate p k = 1 ∨ fate p k = 2 by omega) with hF | hF | hF
        · rw [hF] at hx3
          have R2 : Hid (RefRaw wr F g (d.part (fate p) (k + 1)) (.slice (some ⟨b, 0, none⟩) d.safe.length cap) (.slice (some ⟨q, 0, none⟩) d.waits.length capq)) := by
            show RefRaw _ _ _ _ _ _
            rw [HPT.out 0 hF]
            exact HRR.out
          clear hF hf3
          go_wp2
          go_roundw
          case rel => exact ⟨k + 1, by omega, by go_num, R2.out, HST.out⟩
          case measure => simp [intOf]; omega
        · rw [hF] at hx3
          obtain ⟨r2, s2⟩ := HRR.out.drew.stored HL1.out.symm j s
          have R2 : Hid (RefRaw (wr.drew.setCell ⟨b, j, none⟩ (.string s)) F g (d.part (fate p) (k + 1)) (.slice (some ⟨b, 0, none⟩) d.safe.length cap) (.slice (some ⟨q, 0, none⟩) d.waits.length capq)) := by
            show RefRaw _ _ _ _ _ _
            rw [HPT.out 1 hF]
            exact r2
          have S2 := Lib.hid (HST.out.drew.trans s2)
          clear hF hf3 r2 s2
          go_wp2_with fail
          go_still_tail 21, (by kernel_rfl)
          go_wp2
          go_roundw
          case rel => exact ⟨k + 1, by omega, by go_num, R2.out, S2.out⟩
          case measure => simp [intOf]; omega
        · rw [hF] at hx3
          have HH := Lib.hid hF
          clear hF hf3
          go_wp2_with fail
          refine' wp_region_conf 14 [.is _, .is _, .is _, .is _, .is _, .is _, .is _, .is _, .is _, .is _, .is _, .is _, .is _, .is _] (by kernel_rfl) (by kernel_rfl) (by kernel_rfl) (by kernel_rfl) rfl ?main
          case main =>
            iterate 14
              refine obs_is (fun w2 hE2 _ => ?_) ?_
              · have r2 := HRR.out.drew.below hE2
                obtain ⟨d0, d1, _⟩ := r2.cells
                have hw2 := r2.wait
                have q2 := (hw2.cellAt (k * 2) (by show k * 2 < d.waits.length * 2; omega)).trans HE0.out
                clear r2 hw2
                go_wp2_with (go_at_call 31; refine (refZero_any _).mono ?_; rintro e w3 ⟨rfl, hb3⟩)
                first | exact post_is hb3 | exact post_is (Below.refl _ _)
              simp only [Act.put, List.setIfInBounds_toArray, List.set_cons_zero, List.set_cons_succ]
            refine obs_end fun w3 hE3 _ => ?_
            have r3 := HRR.out.drew.below hE3
            have hsafe := own_below HSF.out.drew hE3
            have e1 := (hsafe.cellAt j (by omega)).trans HU.out
            have f1 := hsafe.frozenAt j
            obtain ⟨r2, s2⟩ := r3.stored HL1.out.symm j zero128
            have R2 : Hid (RefRaw (w3.setCell ⟨b, j, none⟩ (.string zero128)) F g (d.part (fate p) (k + 1)) (.slice (some ⟨b, 0, none⟩) d.safe.length cap) (.slice (some ⟨q, 0, none⟩) d.waits.length capq)) := by
              show RefRaw _ _ _ _ _ _
              rw [HPT.out 2 HH.out]
              exact r2
            have S2 := Lib.hid ((HST.out.drew.more hE3).trans s2)
            clear r2 s2 hsafe r3
            change wpList _ _ _ _ _ _
            go_wp2
            go_roundw
            case rel => exact ⟨k + 1, by omega, by go_num, R2.out, S2.out⟩
            case measure => simp [intOf]; omega
    · obtain rfl : k = d.waits.length := by omega
      obtain ⟨hf, sf⟩ := hr.reset
      have f1 := hr.frozen 1
      have f2 := hr.frozen 2
      have f3 := hr.frozen 3
      have HF := Lib.hid hf
      have SF := Lib.hid (hst.trans sf)
      clear hf sf hr hst
      go_wp2
      go_end0
      exact ⟨rfl, HF.out, SF.out⟩
end
end Go.Proofs.Ytapkelnpkonmpaa
