/- careenlaw03: what the document fixes comes out. -/
import Derived.Test.YtapkelnpkonmpaaDiskL
namespace Go.Proofs.Ytapkelnpkonmpaa
open Go.RowKit

namespace Aw
def d1 : Dk := (Dk.new 2).write 0 (fullS 97)
def d2 : Dk := d1.sync
def d3 : Dk := d2.write 0 (fullS 98)
def d4 (f : UInt8) : Dk := d3.crash [f]
theorem d1_is : d1 = ⟨[zero128, zero128], [(0, fullS 97)], false, none⟩ := by simp [d1, Dk.new, Dk.write, Dk.has, Dk.bears, Dk.burn, fullS_size, List.replicate]
theorem d2_is : d2 = ⟨[fullS 97, zero128], [], false, none⟩ := by unfold d2; rw [d1_is]; simp [Dk.sync, Dk.bears, Dk.burn, Dk.settled, settleTo, settleOne]
theorem d3_is : d3 = ⟨[fullS 97, zero128], [(0, fullS 98)], false, none⟩ := by unfold d3; rw [d2_is]; simp [Dk.write, Dk.has, Dk.bears, Dk.burn, fullS_size]
theorem e1 : (Dk.new 2).writeE 0 (fullS 97) = 0 := by simp [Dk.new, Dk.writeE, Dk.has, Dk.bears, fullS_size]
theorem e2 : d1.syncE = 0 := by rw [d1_is]; simp [Dk.syncE, Dk.bears]
theorem e3 : d2.writeE 0 (fullS 98) = 0 := by rw [d2_is]; simp [Dk.writeE, Dk.has, Dk.bears, fullS_size]
theorem e4 (f : UInt8) : (d4 f).reachE 0 = 0 := by unfold d4; rw [d3_is]; simp [Dk.crash, Dk.reachE, Dk.has, Dk.settled, settleTo_len]
theorem r4 (f c : UInt8) (h : (f = 0 ∧ c = 97) ∨ (f = 1 ∧ c = 98) ∨ (f = 2 ∧ c = 0)) : (d4 f).read 0 = fullS c := by
  unfold Dk.read
  rw [if_pos (e4 f)]
  unfold d4
  rw [d3_is]
  rcases h with ⟨rfl, rfl⟩ | ⟨rfl, rfl⟩ | ⟨rfl, rfl⟩ <;> simp [Dk.crash, Dk.at_, lastOf, Dk.settled, settleTo, settleOne, fate, fullS_zero]
theorem l1 : (Dk.new 2).waits.length < 16777216 := by simp [Dk.new]
theorem l2 : d2.waits.length < 16777216 := by rw [d2_is]; simp
def b1 : Dk := (Dk.new 2).arm 1
def b2 : Dk := b1.write 1 (fullS 120)
def b3 : Dk := b2.write 1 (fullS 121)
theorem b1_is : b1 = ⟨[zero128, zero128], [], false, some 1⟩ := by simp [b1, Dk.new, Dk.arm, List.replicate]
theorem b2_is : b2 = ⟨[zero128, zero128], [(1, fullS 120)], false, some 0⟩ := by unfold b2; rw [b1_is]; simp [Dk.write, Dk.has, Dk.bears, Dk.burn, fullS_size]
theorem b3_is : b3 = ⟨[zero128, zero128], [(1, fullS 120)], true, some 0⟩ := by unfold b3; rw [b2_is]; simp [Dk.write, Dk.has, Dk.bears, Dk.burn, fullS_size]
theorem f2 : b1.writeE 1 (fullS 120) = 0 := by rw [b1_is]; simp [Dk.writeE, Dk.has, Dk.bears, fullS_size]
theorem f3 : b2.writeE 1 (fullS 121) = 4 := by rw [b2_is]; simp [Dk.writeE, Dk.has, Dk.bears, fullS_size]
theorem l3 : b1.waits.length < 16777216 := by rw [b1_is]; simp
theorem l4 : b2.waits.length < 16777216 := by rw [b2_is]; simp
theorem g3 : b3.gone = true := by rw [b3_is]
theorem n3 : b3.waits.length = 1 := by rw [b3_is]; rfl
end Aw

set_option maxRecDepth 100000 in
set_option maxHeartbeats 8000000 in
theorem awake_any (w : World) : Calls Try.prog 10 #[] w fun e w' => e = .returned (.bool true) ∧ Below w.heap.size w w' := by
  have b0 := Blk.new w 5 #[.int .u8 97, .int .u8 98, .int .u8 0]
  have B0 := Lib.hid b0
  clear b0
  go_enter Try.func10, Try.ntmps10
  go_wp2
  go_loopw [16] (fun v wr => ∃ k : Nat, k ≤ 3 ∧ v = .int .i64 k ∧ Blk wr w.heap.size 5 #[.int .u8 97, .int .u8 98, .int .u8 0] ∧ Below w.heap.size w wr) (fun v _ => 3 - (intOf v).toNat)
  case atStart => exact ⟨0, by omega, rfl, B0.out, (Below.refl _ _).alloc (Nat.le_refl _) _⟩
  case round =>
    obtain ⟨k, hk, rfl, hb, hB⟩ := hrel
    by_cases hlt : k < 3
    · have H : ∃ f c : UInt8, ((f = 0 ∧ c = 97) ∨ (f = 1 ∧ c = 98) ∨ (f = 2 ∧ c = 0)) ∧ wr.cell? ⟨w.heap.size, k, none⟩ = some (.int .u8 (c.toNat : Int)) ∧ ((k : Int) = (f.toNat : Int)) := by
        rcases (show k = 0 ∨ k = 1 ∨ k = 2 by omega) with rfl | rfl | rfl
        · exact ⟨0, 97, .inl ⟨rfl, rfl⟩, hb.cell 0, rfl⟩
        · exact ⟨1, 98, .inr (.inl ⟨rfl, rfl⟩), hb.cell 1, rfl⟩
        · exact ⟨2, 0, .inr (.inr ⟨rfl, rfl⟩), hb.cell 2, rfl⟩
      obtain ⟨f, c, hfc, hcell, hkf⟩ := H
      have HFC := Lib.hid hfc
      have HB := Lib.hid hb
      have HKF := Lib.hid hkf
      have hlb := hb.lt
      clear hfc hb hkf
      go_wp2_with fail
      refine (Live.make 2 (by omega) (by omega) (Below.refl wr.heap.size wr)).mono ?_
      rintro e w1 ⟨g, F, rfl, L1⟩
      go_wp2_with fail
      refine (full_any 97 _).mono ?_
      rintro e w2 ⟨rfl, hb2⟩
      go_wp2_with fail
      refine ((L1.more hb2).write 0 _ Aw.l1 0 Aw.e1 rfl).mono ?_
      rintro e w3 ⟨rfl, F3, L3⟩
      go_wp2_with fail
      refine (L3.sync 0 Aw.e2 rfl).mono ?_
      rintro e w4 ⟨rfl, F4, L4⟩
      go_wp2_with fail
      refine (full_any 98 _).mono ?_
      rintro e w5 ⟨rfl, hb5⟩
      go_wp2_with fail
      refine ((L4.more hb5).write 0 _ Aw.l2 0 Aw.e3 rfl).mono ?_
      rintro e w6 ⟨rfl, F6, L6⟩
      go_wp2_with fail
      have hrd : Reads (w6.alloc (.cells #[.int .u8 (k : Int)] 5)) (.slice (some ⟨w6.heap.size, 0, none⟩) 1 1) (byteVs [f]) :=
        Reads.mk' (vs := byteVs [f]) (Nat.le_refl _) fun j x hj => by
          match j, hj with
          | 0, hj =>
            simp [byteVs] at hj
            subst hj
            rw [← HKF.out]
            exact (Blk.new w6 5 #[.int .u8 (k : Int)]).cell 0
      refine ((L6.more ((Below.refl _ _).alloc (Nat.le_refl _) _)).crash _ [f] hrd (fun _ b hb hF => by
        simp only [Value.ownBlock, Option.some.injEq] at hb
        have := L6.disk.lt b hF
        omega) rfl).mono ?_
      rintro e w7 ⟨rfl, F7, L7⟩
      go_wp2_with fail
      refine (L7.read 0 0 (Aw.e4 f) (fullS c) (Aw.r4 f c HFC.out)).mono ?_
      rintro e w8 ⟨rfl, L8⟩
      clear hrd
      go_wp2_with fail
      refine (full_any c _).mono ?_
      rintro e w9 ⟨rfl, hb9⟩
      have L9 := L8.more hb9
      have HB9 := Lib.hid (HB.out.keep L9.below hlb)
      have HL9 := Lib.hid (hB.trans (L9.below.mono hB.size))
      clear L1 L3 L4 L6 L7 L8 L9 hb2 hb5 hb9 hcell
      go_wp2_with fail
      go_roundw
      case rel => exact ⟨k + 1, by omega, by go_num, HB9.out, HL9.out⟩
      case measure => simp [intOf]; omega
    · clear hb
      go_wp2_with fail
      refine (Live.make 2 (by omega) (by omega) (Below.refl wr.heap.size wr)).mono ?_
      rintro e w1 ⟨g, F, rfl, L1⟩
      go_wp2_with fail
      refine (L1.arm 1 (by omega) rfl).mono ?_
      rintro e w2 ⟨rfl, F2, L2⟩
      go_wp2_with fail
      refine (full_any 120 _).mono ?_
      rintro e w3 ⟨rfl, hb3⟩
      go_wp2_with fail
      refine ((L2.more hb3).write 1 _ Aw.l3 0 Aw.f2 rfl).mono ?_
      rintro e w4 ⟨rfl, F4, L4⟩
      go_wp2_with fail
      refine (full_any 121 _).mono ?_
      rintro e w5 ⟨rfl, hb5⟩
      go_wp2_with fail
      refine ((L4.more hb5).write 1 _ Aw.l4 4 Aw.f3 rfl).mono ?_
      rintro e w6 ⟨rfl, F6, L6⟩
      go_wp2_with fail
      refine (L6.dead true Aw.g3).mono ?_
      rintro e w7 ⟨rfl, rfl⟩
      go_wp2_with fail
      refine (L6.waiting 1 Aw.n3).mono ?_
      rintro e w8 ⟨rfl, rfl⟩
      have HL := Lib.hid (hB.trans (L6.below.mono hB.size))
      clear L1 L2 L4 L6 hb3 hb5
      go_wp2
      go_ret
      exact ⟨rfl, HL.out⟩
end Go.Proofs.Ytapkelnpkonmpaa
