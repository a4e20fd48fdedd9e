/- Package disk: what waits is made safe. -/
import Derived.Test.YtbjpnkjddfpmpaaDiskE
namespace Go.Proofs.Ytbjpnkjddfpmpaa
open Go.RowKit

/-- Some of the writes are settled; all of them wait still. -/
def Dk.part (d : Dk) (f : Nat → Nat) (k : Nat) : Dk := { d with safe := settleTo f d.waits d.safe k }
theorem Dk.Ok.part {d : Dk} (h : d.Ok) (f : Nat → Nat) (k : Nat) : (d.part f k).Ok :=
  ⟨by unfold Dk.part; rw [settleTo_len]; exact h.pos, by unfold Dk.part; rw [settleTo_len]; exact h.le, Dk.settleTo_sect h.sect (fun x hx => (h.wait x hx).2) _, fun x hx => by
    have := h.wait x hx
    unfold Dk.part
    rw [settleTo_len]
    exact this, h.fuse⟩
theorem strsV_set (l : List ByteArray) (k : Nat) (s : ByteArray) : (strsV l).set k (.string s) = strsV (l.set k s) := by simp [strsV, List.map_set]

section
variable {w : World} {F : Foot} {g : Nat} {d : Dk}
/-- A sector is written where it is safe. -/
theorem RawF.stored {f : Int → Option Value} {b cap : Nat} {vq : Value} {m n : Nat} (h : RawF w F g d f (.slice (some ⟨b, 0, none⟩) n cap) vq m) (hn : n = d.safe.length) (k : Nat) (s : ByteArray) :
    RawF (w.setCell ⟨b, k, none⟩ (.string s)) F g { d with safe := d.safe.set k s } f (.slice (some ⟨b, 0, none⟩) n cap) vq m ∧ Step F F w (w.setCell ⟨b, k, none⟩ (.string s)) := by
  subst hn
  have set : ∀ c, c ≠ b → (w.setCell ⟨b, k, none⟩ (.string s)).heap[c]? = w.heap[c]? := fun c hc => heap_setCell_other w ⟨b, k, none⟩ c _ hc
  have hb : (Value.slice (some ⟨b, 0, none⟩) d.safe.length cap).ownBlock = some b := rfl
  have so := (h.safe.stored k (.string s)).1
  rw [strsV_set] at so
  refine ⟨⟨(set g fun e => h.gs (by rw [hb, e])).trans h.head, ?_, own_keep h.wait fun c hc => set c (fun e => h.sq hb (by rw [hc, e])), h.last.keep (set m fun e => h.sm (by rw [hb, e])), h.fg, h.fm, h.fs, h.fq, fun c hc => by simpa [World.setCell] using h.lt c hc⟩, (Step.refl F w).set (p := ⟨b, k, none⟩) (h.fs b hb) _⟩
  have e : (d.safe.set k s).length = d.safe.length := List.length_set ..
  show World.ownsRow _ _ _ _ _ (d.safe.set k s).length _
  rw [e]
  exact so

theorem add_mul (b k : Nat) : (⟨b, 0, none⟩ : Addr).add k = ⟨b, k, none⟩ := by unfold Addr.add; split <;> simp_all

set_option maxRecDepth 100000 in
set_option maxHeartbeats 4000000 in
theorem sync_ok (h : IsDisk w F g d) (hbear : d.bears = true) :
    Calls Try.prog 26 #[.pointer (some ⟨g, 0, none⟩)] w fun e w' => e = .returned (.int .i64 0) ∧ IsDisk w' F g d.sync ∧ Step F F w w' := by
  have H2 := Lib.hid (bears_any h true hbear.symm)
  have hsync : d.sync = { d.burn.part (fun _ => 1) d.burn.waits.length with waits := [] } := by
    unfold Dk.sync Dk.part Dk.settled
    rw [if_pos hbear, Dk.burn_waits, Dk.burn_safe]
  rw [hsync]
  clear hsync hbear h
  generalize d.burn = D at *
  go_enter Try.func26, Try.ntmps26
  go_wp2_with fail
  refine H2.out.mono ?_
  rintro e w1 ⟨rfl, ⟨ho, vs, vq, m, r⟩, s1⟩
  obtain ⟨b, cap, rfl, hcap⟩ := own_head ho r.safe
  have hn := ho.le
  rcases own_any r.wait with ⟨rfl, h0, _⟩ | ⟨q, capq, rfl, hq, hqm⟩
  · obtain ⟨_, c1, _⟩ := r.cells
    have hd : IsDisk w1 F g (D.part (fun _ => 1) D.waits.length) := by rw [h0]; exact ⟨ho, _, _, _, r⟩
    have HD := Lib.hid hd
    clear r ho h0 hd
    go_wp2
    refine wp_loop_rounds 1 ?_
    rw [rounds_succ]
    go_wp2_with fail
    refine (dropWaits_any HD.out).mono ?_
    rintro e w2 ⟨rfl, hd2, s2⟩
    go_wp2
    go_ret
    exact ⟨rfl, hd2, s1.trans s2⟩
  · obtain ⟨_, c1, _⟩ := r.cells
    have hl : D.waits.length ≤ 9223372036854775807 := by unfold maxLen at hqm; omega
    have hin : ∀ k (hk : k < D.waits.length), D.waits[k].1 < D.safe.length := fun k hk => (ho.wait _ (List.getElem_mem hk)).1
    have HIN := Lib.hid hin
    have HO := Lib.hid ho
    clear hin ho
    have HR : Hid (RawF w1 F g (D.part (fun _ => 1) 0) (lastV D.waits) (.slice (some ⟨b, 0, none⟩) D.safe.length cap) (.slice (some ⟨q, 0, none⟩) D.waits.length capq) m) := r
    clear r
    have hlen : ∀ k, (D.part (fun _ => 1) k).safe.length = D.safe.length := fun k => settleTo_len _ _ _ _
    have HL := Lib.hid hlen
    clear hlen
    go_wp2
    go_loopw [17] (fun i wr => ∃ k : Nat, k ≤ D.waits.length ∧ i = .int .i64 k ∧ RawF wr F g (D.part (fun _ => 1) k) (lastV D.waits) (.slice (some ⟨b, 0, none⟩) D.safe.length cap) (.slice (some ⟨q, 0, none⟩) D.waits.length capq) m ∧ Step F F w1 wr) (fun i _ => D.waits.length - (intOf i).toNat)
    case atStart => exact ⟨0, Nat.zero_le _, rfl, HR.out, Step.refl _ _⟩
    case round =>
      obtain ⟨k, hk, rfl, hr, hst⟩ := hrel
      clear c1
      by_cases hlt : k < D.waits.length
      · have hkl := hlt
        obtain ⟨e0, e1⟩ := waitsV_at D.waits k hkl
        have hw := hr.wait
        rw [show (D.part (fun _ => 1) k).waits = D.waits from rfl] at hw
        have q0 := (hw.cellAt (k * 2) (by omega)).trans e0
        have q1 := (hw.cellAt (k * 2 + 1) (by omega)).trans e1
        obtain ⟨c0, _⟩ := hr.cells
        have hi := HIN.out k hkl
        have hx0 : (0 : Int) ≤ (D.waits[k].1 : Int) := Int.natCast_nonneg _
        have hx1 : (D.waits[k].1 : Int) < (D.safe.length : Int) := by omega
        generalize hj : D.waits[k].1 = j at *
        generalize hs : D.waits[k].2 = s at *
        have HJ := Lib.hid hj
        have HS := Lib.hid hs
        clear hj hs hw e0 e1
        go_wp2_with fail
        have rW := hr.below ((Below.refl _ _).alloc (Nat.le_refl _) (.cells #[.int .i64 (j : Int), .string s] 69))
        have sW := hst.alloc (.cells #[.int .i64 (j : Int), .string s] 69)
        have bx : Blk (wr.alloc (.cells #[.int .i64 (j : Int), .string s] 69)) wr.heap.size 69 #[.int .i64 (j : Int), .string s] := Blk.new _ _ _
        generalize wr.heap.size = x at *
        generalize wr.alloc (.cells #[.int .i64 (j : Int), .string s] 69) = W at *
        have b0 := bx.cell 0
        have b1 := bx.cell 1
        obtain ⟨d0, _⟩ := rW.cells
        have hl1 : (D.part (fun _ => 1) k).safe.length = D.safe.length := HL.out k
        have hsafe := rW.safe
        rw [hl1] at hsafe
        have e1 := hsafe.cellAt j (by omega)
        obtain ⟨u, hu⟩ : ∃ u, (strsV (D.part (fun _ => 1) k).safe)[j]? = some u := ⟨_, List.getElem?_eq_getElem (by rw [strsV_len, hl1]; exact hi)⟩
        rw [hu] at e1
        have f1 := hsafe.frozenAt j
        obtain ⟨r2, s2⟩ := rW.drew.stored hl1.symm j s
        have hpart : { D.part (fun _ => 1) k with safe := (D.part (fun _ => 1) k).safe.set j s } = D.part (fun _ => 1) (k + 1) := by
          unfold Dk.part
          rw [settleTo_succ _ _ _ _ hlt]
          simp [settleOne, HJ.out, HS.out]
        have R2 : Hid (RawF (W.drew.setCell ⟨b, j, none⟩ (.string s)) F g (D.part (fun _ => 1) (k + 1)) (lastV D.waits) (.slice (some ⟨b, 0, none⟩) D.safe.length cap) (.slice (some ⟨q, 0, none⟩) D.waits.length capq) m) := by rw [← hpart]; exact r2
        have S2 := Lib.hid (sW.drew.trans s2)
        clear r2 s2 hpart hsafe hu hl1 hr rW sW bx c0 q0 q1
        go_still_tail 9, (by kernel_rfl)
        go_wp2
        go_roundw
        case rel => exact ⟨k + 1, by omega, by go_num, R2.out, S2.out⟩
        case measure => simp [intOf]; omega
      · obtain rfl : k = D.waits.length := by omega
        go_wp2_with fail
        refine (dropWaits_any (⟨HO.out.part _ _, _, _, _, hr⟩ : IsDisk wr F g (D.part (fun _ => 1) D.waits.length))).mono ?_
        rintro e w2 ⟨rfl, hd2, s2⟩
        go_wp2
        go_ret
        exact ⟨rfl, hd2, (s1.trans hst).trans s2⟩
set_option maxRecDepth 100000 in
set_option maxHeartbeats 1000000 in
theorem sync_dead (h : IsDisk w F g d) (hb : d.bears = false) :
    Calls Try.prog 26 #[.pointer (some ⟨g, 0, none⟩)] w fun e w' => e = .returned (.int .i64 4) ∧ IsDisk w' F g d.burn ∧ Step F F w w' := by
  have H2 := Lib.hid (bears_any h false hb.symm)
  clear h hb
  go_enter Try.func26, Try.ntmps26
  go_wp2_with fail
  refine H2.out.mono ?_
  rintro e w1 ⟨rfl, hd, hs⟩
  go_wp2
  go_ret
  exact ⟨rfl, hd, hs⟩
set_option maxRecDepth 100000 in
theorem sync_nil (w : World) : Calls Try.prog 26 #[.pointer none] w fun e w' => e = .returned (.int .i64 10) ∧ w = w' := by
  go_enter Try.func26, Try.ntmps26
  go_wp2
  go_ret
  exact ⟨rfl, rfl⟩
theorem sync_any (h : IsDisk w F g d) :
    Calls Try.prog 26 #[.pointer (some ⟨g, 0, none⟩)] w fun e w' => e = .returned (.int .i64 d.syncE) ∧ IsDisk w' F g d.sync ∧ Step F F w w' := by
  unfold Dk.syncE
  cases hb : d.bears with
  | true => exact sync_ok h hb
  | false =>
    have e : d.sync = d.burn := by unfold Dk.sync; rw [hb]; rfl
    rw [e]
    exact sync_dead h hb
end
end Go.Proofs.Ytbjpnkjddfpmpaa
