/- The document's own disk: what waits is made safe; a crash. -/
import Derived.Test.YtapkelnpkonmpaaRefB
namespace Go.Proofs.Ytapkelnpkonmpaa
open Go.RowKit

section
variable {w : World} {F : Foot} {g : Nat} {d : Dk}
theorem part_one (d : Dk) (f : Nat → Nat) (k : Nat) (hk : k < d.waits.length) (n : Nat) (hn : f k = n) : d.part f (k + 1) = { d.part f k with safe := settleOne n (d.waits[k].1, d.waits[k].2) (d.part f k).safe } := by
  unfold Dk.part
  rw [settleTo_succ _ _ _ _ hk, hn]
set_option maxRecDepth 100000 in
set_option maxHeartbeats 4000000 in
theorem refSync_ok (ho : d.Ok) (h : IsRef w F g d) (hbear : d.bears = true) :
    Calls Try.prog 17 #[.pointer (some ⟨g, 0, none⟩)] w fun e w' => e = .returned (.int .i64 0) ∧ IsRef w' F g d.sync ∧ Step F F w w' := by
  have H2 := Lib.hid (borne_any h ho.fuse true hbear.symm)
  have hsync : d.sync = { d.burn.part (fun _ => 1) d.burn.waits.length with waits := [] } := by
    unfold Dk.sync Dk.part Dk.settled
    rw [if_pos hbear, Dk.burn_waits, Dk.burn_safe]
  rw [hsync]
  have ho := ho.burn
  clear hsync hbear h
  generalize d.burn = D at *
  have hn := ho.le
  have hin : ∀ k (hk : k < D.waits.length), D.waits[k].1 < D.safe.length := fun k hk => (ho.wait _ (List.getElem_mem hk)).1
  have HIN := Lib.hid hin
  have HO := Lib.hid ho
  clear hin ho
  have hlen : ∀ k, (D.part (fun _ => 1) k).safe.length = D.safe.length := fun k => settleTo_len _ _ _ _
  have HL := Lib.hid hlen
  clear hlen
  go_enter Try.func17, Try.ntmps17
  go_wp2_with fail
  refine H2.out.mono ?_
  rintro e w1 ⟨rfl, ⟨vs, vq, r⟩, s1⟩
  obtain ⟨b, cap, rfl, hcap⟩ := own_head HO.out r.safe
  obtain ⟨qa, capq, rfl, hqm⟩ : ∃ qa capq, vq = .slice qa D.waits.length capq ∧ D.waits.length ≤ 9223372036854775807 := by
    rcases own_any r.wait with ⟨rfl, h0, _⟩ | ⟨q, capq, rfl, hq, hqm⟩
    · exact ⟨none, 0, by rw [h0], by omega⟩
    · exact ⟨_, capq, rfl, by unfold maxLen at hqm; omega⟩
  have HR : Hid (RefRaw w1 F g (D.part (fun _ => 1) 0) (.slice (some ⟨b, 0, none⟩) D.safe.length cap) (.slice qa D.waits.length capq)) := r
  have HS1 := Lib.hid s1
  clear r s1
  go_wp2
  go_loopw [3] (fun i wr => ∃ k : Nat, k ≤ D.waits.length ∧ i = .int .i64 k ∧ RefRaw wr F g (D.part (fun _ => 1) k) (.slice (some ⟨b, 0, none⟩) D.safe.length cap) (.slice qa D.waits.length capq) ∧ Step F F w1 wr) (fun i _ => D.waits.length - (intOf i).toNat)
  case atStart => exact ⟨0, Nat.zero_le _, rfl, HR.out, Step.refl _ _⟩
  case round =>
    obtain ⟨k, hk, rfl, hr, hst⟩ := hrel
    obtain ⟨c0, c1, _⟩ := hr.cells
    by_cases hlt : k < D.waits.length
    · have hkl := hlt
      rcases own_any hr.wait with ⟨_, h0, _⟩ | ⟨q, capq', hqe, _, _⟩
      · exact absurd h0 (by show D.waits.length ≠ 0; omega)
      simp only [Value.slice.injEq] at hqe
      obtain ⟨rfl, _, rfl⟩ := hqe
      obtain ⟨e0, e1⟩ := waitsV_at D.waits k hkl
      have hw := hr.wait
      rw [show (D.part (fun _ => 1) k).waits = D.waits from rfl] at hw
      have q0 := (hw.cellAt (k * 2) (by omega)).trans e0
      have q1 := (hw.cellAt (k * 2 + 1) (by omega)).trans e1
      have hi := HIN.out k hkl
      have hx0 : (0 : Int) ≤ (D.waits[k].1 : Int) := Int.natCast_nonneg _
      have hx1 : (D.waits[k].1 : Int) < (D.safe.length : Int) := by omega
      have hpart := part_one D (fun _ => 1) k hkl 1 rfl
      generalize D.waits[k].1 = j at *
      generalize D.waits[k].2 = s at *
      have hl1 : (D.part (fun _ => 1) k).safe.length = D.safe.length := HL.out k
      have hsafe := hr.safe
      rw [hl1] at hsafe
      have e1 := hsafe.cellAt j (by omega)
      obtain ⟨u, hu⟩ : ∃ u, (strsV (D.part (fun _ => 1) k).safe)[j]? = some u := ⟨_, List.getElem?_eq_getElem (by rw [strsV_len, hl1]; exact hi)⟩
      rw [hu] at e1
      have f1 := hsafe.frozenAt j
      obtain ⟨r2, s2⟩ := hr.drew.stored hl1.symm j s
      have R2 : Hid (RefRaw (wr.drew.setCell ⟨b, j, none⟩ (.string s)) F g (D.part (fun _ => 1) (k + 1)) (.slice (some ⟨b, 0, none⟩) D.safe.length cap) (.slice (some ⟨q, 0, none⟩) D.waits.length capq)) := by rw [hpart]; exact r2
      have S2 := Lib.hid (hst.drew.trans s2)
      clear r2 s2 hpart hsafe hu hl1 hr hst hw e0
      go_wp2_with fail
      go_still_tail 21, (by kernel_rfl)
      go_wp2
      go_roundw
      case rel => exact ⟨k + 1, by omega, by go_num, R2.out, S2.out⟩
      case measure => simp [intOf]; omega
    · obtain rfl : k = D.waits.length := by omega
      obtain ⟨r2, s2⟩ := hr.dropped
      have hf : IsRef (wr.setCell ⟨g, 1, none⟩ (.slice none 0 0)) F g { D.part (fun _ => 1) D.waits.length with waits := [] } := ⟨_, _, r2⟩
      have R2 := Lib.hid hf
      have S2 := Lib.hid ((HS1.out.trans hst).trans s2)
      have f1 := hr.frozen 1
      clear r2 s2 hf hr hst
      go_wp2
      go_ret
      exact ⟨rfl, R2.out, S2.out⟩
set_option maxRecDepth 100000 in
set_option maxHeartbeats 1000000 in
theorem refSync_dead (ho : d.Ok) (h : IsRef w F g d) (hb : d.bears = false) :
    Calls Try.prog 17 #[.pointer (some ⟨g, 0, none⟩)] w fun e w' => e = .returned (.int .i64 4) ∧ IsRef w' F g d.burn ∧ Step F F w w' := by
  have H2 := Lib.hid (borne_any h ho.fuse false hb.symm)
  clear h hb ho
  go_enter Try.func17, Try.ntmps17
  go_wp2_with fail
  refine H2.out.mono ?_
  rintro e w1 ⟨rfl, hd, hs⟩
  go_wp2
  go_ret
  exact ⟨rfl, hd, hs⟩
theorem refSync_any (ho : d.Ok) (h : IsRef w F g d) :
    Calls Try.prog 17 #[.pointer (some ⟨g, 0, none⟩)] w fun e w' => e = .returned (.int .i64 d.syncE) ∧ IsRef w' F g d.sync ∧ Step F F w w' := by
  unfold Dk.syncE
  cases hb : d.bears with
  | true => exact refSync_ok ho h hb
  | false =>
    have e : d.sync = d.burn := by unfold Dk.sync; rw [hb]; rfl
    rw [e]
    exact refSync_dead ho h hb
end
end Go.Proofs.Ytapkelnpkonmpaa
