/- careenlaw05.WalRoom: it returns true for every input, and leaves its arguments as they were: the row's proof, out of the walk.
   Conditions: none beside the row's own (each argument is read as data). -/
import Derived.Test.YtopihafmajadfaaOpenRecs
import Derived.Test.YtopihafmajadfaaBase
import Derived.IntWalk
import Derived.Test.YtopihafmajadfaaJwalK
import Derived.Test.YtopihafmajadfaaRecMay
import Derived.Test.YtopihafmajadfaaOpenRec
import Derived.ProofKit
import Derived.OpenShut
import Derived.ShutString
import Derived.ChangeOld
import Derived.Below
import Derived.Lib.SmallJoins
/- Truths that came in, opened. -/
namespace Go.Proofs.Ytopihafmajadfaa
open Go.ChangeShapes Go.WideShapes Go.RowKit
set_option maxRecDepth 100000

theorem cellsBool : Try.prog.cellsOf 4 = 1 := by kernel_rfl
theorem open_bools {H : Type} {enc : TypeId × Value → H} {W : World} {b0 : Nat} {r : Reach} {v : Value} {d : DataW H} {p : List MemPlace} (hval : Value.okWide Try.prog W r b0 74 v) (h : DataW.Trod enc Try.prog W 0 (fun _ => true) true 74 v d p) :
    ∃ l, IsBools W v l :=
  open_list Try.underlying74 1 (by decide) cellsBool hval h BoolQ fun _ _ _ _ ht => by
    obtain ⟨b, e, _⟩ := DataW.trod_bool Try.underlying4 ht
    exact ⟨b, e⟩
/-- One truth of the list. -/
theorem IsBools.at_ {w : World} {v : Value} {l : List Bool} (h : IsBools w v l) : (l = [] ∧ ∃ a cap, v = .slice a 0 cap) ∨ ∃ b off cap, v = .slice (some ⟨b, off, none⟩) l.length cap ∧ 0 < l.length ∧ l.length ≤ cap ∧ cap ≤ maxLen ∧ b < w.heap.size ∧ ∀ j (hj : j < l.length), w.cell? ⟨b, off + j, none⟩ = some (.bool l[j]) := by
  rcases ListOf.cases h with h | ⟨b, off, cap, e, h0, h1, h2, h3, h4⟩
  · exact .inl h
  · refine .inr ⟨b, off, cap, e, h0, h1, h2, h3, fun j hj => ?_⟩
    obtain ⟨cs, hq, hc⟩ := h4 j hj
    subst hq
    have := hc 0 _ rfl
    simpa using this
end Go.Proofs.Ytopihafmajadfaa

/- 'int(uint(i) % m)'; nothing of the program is imported. -/
namespace Go.Proofs.Ytopihafmajadfaa
open Go.RowKit

def modN (i m : Int) : Nat := (IntKind.u64.wrap i % m).toNat
theorem modN_pos (i : Int) : 0 ≤ IntKind.u64.wrap i := by rw [IntKind.wrap_u64]; omega
theorem modN_lt (i m : Int) (hm : 0 < m) : (modN i m : Int) < m := by
  have h1 := Int.emod_lt_of_pos (IntKind.u64.wrap i) hm
  have h2 := Int.emod_nonneg (IntKind.u64.wrap i) (Int.ne_of_gt hm)
  unfold modN; omega
theorem modN_eq (i m : Int) (hm : 0 < m) (hm2 : m ≤ 1000) : wrap64 ((IntKind.u64.wrap i).tmod m) = (modN i m : Int) := by
  have h1 := Int.emod_lt_of_pos (IntKind.u64.wrap i) hm
  have h2 := Int.emod_nonneg (IntKind.u64.wrap i) (Int.ne_of_gt hm)
  rw [Int.tmod_eq_emod_of_nonneg (modN_pos i)]
  unfold modN
  generalize IntKind.u64.wrap i % m = x at *
  unfold wrap64
  omega
theorem size_eq (n : Int) (k : Int) (hk0 : 0 < k) (hk : k ≤ 1000) : ∃ N : Nat, 8 ≤ N ∧ (N : Int) < 8 + k ∧ wrap64 (8 + wrap64 ((IntKind.u64.wrap n).tmod k)) = (N : Int) := by
  have h1 := modN_eq n k hk0 hk
  have h2 := modN_lt n k hk0
  refine ⟨8 + modN n k, by omega, by omega, ?_⟩
  rw [h1]
  unfold wrap64
  omega
end Go.Proofs.Ytopihafmajadfaa

/- careenlaw05.WalRoom, walked. -/
namespace Go.Proofs.Ytopihafmajadfaa
open Go.RowKit

theorem Wl.app_room {l : Wl} (ok : l.Ok) {r : Rc} (hm : May r) : ((l.app r).2.1 = 0 ∧ l.room ≤ (l.app r).2.2.room + 1) ∨ ((l.app r).2.1 = 5 ∧ l.room = 0 ∧ (l.app r).2.2 = l) := by
  rw [Wl.app_may hm]
  have hlen := ok.len
  unfold Wl.putE Wl.put Wl.room
  by_cases hj : l.joins r
  · rw [if_pos hj, if_pos hj]
    have hlt : 0 < l.secs.length := by have := hj.1; have := ok.fl; unfold Wl.end_ at *; omega
    refine .inl ⟨rfl, ?_⟩
    simp only [List.length_append, List.length_dropLast, List.length_singleton]
    omega
  · rw [if_neg hj, if_neg hj]
    by_cases hr : l.secs.length < l.size
    · rw [if_pos hr, if_pos hr]
      refine .inl ⟨rfl, ?_⟩
      simp only [List.length_append, List.length_singleton]
      omega
    · rw [if_neg hr, if_neg hr]
      exact .inr ⟨rfl, by omega, rfl⟩

set_option maxRecDepth 100000 in
set_option maxHeartbeats 16000000 in
theorem walRoom_long1 (n : Int) (v vf : Value) (l : List Rc) (fl : List Bool) (w : World) (hv : IsRecs w v l) (hf : IsBools w vf fl) (hl : 100 < l.length) :
    Calls Try.prog 9 #[.int .i64 n, v, vf] w fun e w' => e = .returned (.bool true) ∧ Below w.heap.size w w' := by
  have HV := Lib.hid hv
  obtain ⟨N, hN8, hN18, hk⟩ := size_eq n 10 (by omega) (by omega)
  have HK := Lib.hid hk
  obtain ⟨a, cap, rfl, h1, h2, _⟩ := hv
  obtain ⟨fa, fcap, rfl, hf1, hf2, hf3⟩ := hf
  have HF := Lib.hid hf3
  have hm : (100 : Int) < l.length := by omega
  clear h1 h2 hf1 hf2 hf3 hk
  go_enter Try.func9, Try.ntmps9
  go_wp2_with fail
  rw [HK.out]
  refine (new_ok N w (by omega) (by omega)).mono ?_
  rintro e w1 ⟨gd, FD, rfl, hd, hFD, hb1⟩
  have HD := Lib.hid hd
  have HFD := Lib.hid hFD
  have HB1 := Lib.hid hb1
  clear hd hFD hb1
  go_wp2_with fail
  refine (LiveL.make HD.out HFD.out HB1.out 0 N (by omega) (by omega) (by simp [Dk.new])).mono ?_
  rintro e w2 ⟨g, FL, rfl, hl2⟩
  have L2 := Lib.hid hl2
  clear hl2 HD HB1 HFD
  go_wp2_with fail
  refine (awake5 _).mono ?_
  rintro e w3 ⟨rfl, hb3⟩
  have L3 := Lib.hid (L2.out.more hb3)
  clear hb3 L2
  go_wp2_with fail
  refine (awake5 _).mono ?_
  rintro e w4 ⟨rfl, hb4⟩
  have HB4 := Lib.hid (L3.out.more hb4).below
  clear hb4 L3
  go_wp2
  go_ret
  exact ⟨rfl, HB4.out⟩

set_option maxRecDepth 100000 in
set_option maxHeartbeats 16000000 in
theorem walRoom_long2 (n : Int) (v vf : Value) (l : List Rc) (fl : List Bool) (w : World) (hv : IsRecs w v l) (hf : IsBools w vf fl) (hl : l.length ≤ 100) (hfl : 200 < fl.length) :
    Calls Try.prog 9 #[.int .i64 n, v, vf] w fun e w' => e = .returned (.bool true) ∧ Below w.heap.size w w' := by
  have HV := Lib.hid hv
  obtain ⟨N, hN8, hN18, hk⟩ := size_eq n 10 (by omega) (by omega)
  have HK := Lib.hid hk
  obtain ⟨a, cap, rfl, h1, h2, _⟩ := hv
  obtain ⟨fa, fcap, rfl, hf1, hf2, hf3⟩ := hf
  have HF := Lib.hid hf3
  have hm : (l.length : Int) ≤ 100 := by omega
  have hfm : (200 : Int) < fl.length := by omega
  clear h1 h2 hf1 hf2 hf3 hk
  go_enter Try.func9, Try.ntmps9
  go_wp2_with fail
  rw [HK.out]
  refine (new_ok N w (by omega) (by omega)).mono ?_
  rintro e w1 ⟨gd, FD, rfl, hd, hFD, hb1⟩
  have HD := Lib.hid hd
  have HFD := Lib.hid hFD
  have HB1 := Lib.hid hb1
  clear hd hFD hb1
  go_wp2_with fail
  refine (LiveL.make HD.out HFD.out HB1.out 0 N (by omega) (by omega) (by simp [Dk.new])).mono ?_
  rintro e w2 ⟨g, FL, rfl, hl2⟩
  have L2 := Lib.hid hl2
  clear hl2 HD HB1 HFD
  go_wp2_with fail
  refine (awake5 _).mono ?_
  rintro e w3 ⟨rfl, hb3⟩
  have L3 := Lib.hid (L2.out.more hb3)
  clear hb3 L2
  go_wp2_with fail
  refine (awake5 _).mono ?_
  rintro e w4 ⟨rfl, hb4⟩
  have HB4 := Lib.hid (L3.out.more hb4).below
  clear hb4 L3
  go_wp2
  go_ret
  exact ⟨rfl, HB4.out⟩

set_option maxRecDepth 100000 in
set_option maxHeartbeats 16000000 in
theorem walRoom_some (n : Int) (v vf : Value) (l : List Rc) (fl : List Bool) (w : World) (hv : IsRecs w v l) (hf : IsBools w vf fl) (hl : l.length ≤ 100) (hfl : fl.length ≤ 200) :
    Calls Try.prog 9 #[.int .i64 n, v, vf] w fun e w' => e = .returned (.bool true) ∧ Below w.heap.size w w' := by
  have HV := Lib.hid hv
  obtain ⟨N, hN8, hN18, hk⟩ := size_eq n 10 (by omega) (by omega)
  have HK := Lib.hid hk
  obtain ⟨a, cap, rfl, h1, h2, _⟩ := hv
  obtain ⟨fa, fcap, rfl, hf1, hf2, hf3⟩ := hf
  have HF := Lib.hid hf3
  have hm2 : (l.length : Int) ≤ 100 := by omega
  have hfm2 : (fl.length : Int) ≤ 200 := by omega
  clear h1 h2 hf1 hf2 hf3 hk
  go_enter Try.func9, Try.ntmps9
  go_wp2_with fail
  rw [HK.out]
  refine (new_ok N w (by omega) (by omega)).mono ?_
  rintro e w1 ⟨gd, FD, rfl, hd, hFD, hb1⟩
  have HD := Lib.hid hd
  have HFD := Lib.hid hFD
  have HB1 := Lib.hid hb1
  clear hd hFD hb1
  go_wp2_with fail
  refine (LiveL.make HD.out HFD.out HB1.out 0 N (by omega) (by omega) (by simp [Dk.new])).mono ?_
  rintro e w2 ⟨g, FL, rfl, hl2⟩
  have L2 := Lib.hid hl2
  clear hl2 HD HB1 HFD
  go_wp2_with fail
  refine (awake5 _).mono ?_
  rintro e w3 ⟨rfl, hb3⟩
  have L3 := Lib.hid (L2.out.more hb3)
  clear hb3 L2
  go_wp2_with fail
  go_loopw [56] (fun vk wr => ∃ (k : Nat) (FD FL : Foot) (D : Dk) (lg : Wl), vk = .int .i64 k ∧ k ≤ l.length ∧ LiveL w wr FD FL g gd D lg ∧ Calm D lg N 1) (fun vk _ => l.length - (intOf vk).toNat)
  case atStart => exact ⟨0, FD, FL, _, _, rfl, Nat.zero_le _, L3.out, Calm.new hN8 (by omega)⟩
  case round =>
    obtain ⟨k, FD2, FL2, D, lg, rfl, hk, hL, hC⟩ := hrel
    have HL := Lib.hid hL
    have HC := Lib.hid hC
    have HB := Lib.hid hL.below
    clear hL hC L3
    by_cases hlt : k < l.length
    · obtain ⟨b, off, cap', hva, _, _, hbw, hel⟩ := HV.out.at_ (by omega)
      cases hva
      obtain ⟨ta, tc, pa, pc, hls0, hsz, hc⟩ := hel k hlt
      have HLS := Lib.hid (hls0.keep HB.out)
      have HSZ := Lib.hid hsz
      have HOLD := Lib.hid hls0.old
      obtain ⟨c0, c1, c2, c3, c4, c5, c6, c7, c8, c9, c10⟩ := hc.keep HB.out
      clear hls0 hsz hel hc
      generalize l[k] = r at *
      have hn := Blk.new wr 26 (recCells .nil (.slice none 0 0) (.slice none 0 0))
      have N3 := hn.setRow (recCells r (.slice ta r.txns.length tc) (.slice pa r.pages.length pc))
      have hb3 : Below wr.heap.size wr ((wr.alloc (.cells (recCells .nil (.slice none 0 0) (.slice none 0 0)) 26)).setRow wr.heap.size (recCells r (.slice ta r.txns.length tc) (.slice pa r.pages.length pc))) := below_setRow ((Below.refl _ _).alloc (Nat.le_refl _) _) (Nat.le_refl _) _
      have HL3 := Lib.hid (HL.out.more hb3)
      have HLS3 := Lib.hid (HLS.out.keep hb3)
      go_upto_region 9 with (refine wpList_store_row rfl 26 _ _ rfl wr.heap.size _ rfl rfl 26 _ hn (by kernel_rfl) rfl (by simp [recCells, Value.oneCell']) ?_)
      have hx0 : Hid (¬ Both FD2 FL2 wr.heap.size) := fun hF => hF.elim (fun h => by have := HL.out.sys.disk.lt _ h; omega) (fun h => by have := HL.out.sys.log.lt _ h; omega)
      clear hn hb3 c0 c1 c2 c3 c4 c5 c6 c7 c8 c9 c10 HLS HL HB hbw
      change Code.wp _ _ _ _ ((wr.alloc (.cells (recCells .nil (.slice none 0 0) (.slice none 0 0)) 26)).setRow wr.heap.size (recCells r (.slice ta r.txns.length tc) (.slice pa r.pages.length pc)))
      generalize (wr.alloc (.cells (recCells .nil (.slice none 0 0) (.slice none 0 0)) 26)).setRow wr.heap.size (recCells r (.slice ta r.txns.length tc) (.slice pa r.pages.length pc)) = w3 at *
      generalize wr.heap.size = x at *
      have IR : Hid (IsRec w3 (.agg (recCells r (.slice ta r.txns.length tc) (.slice pa r.pages.length pc))) r) := ⟨_, _, rfl, HLS3.out⟩
      by_cases hf : Fit r
      · have FEW := Lib.hid (few_yes IR.out hf)
        have HFIT := Lib.hid hf
        clear hf
        go_wp2_with (refine wpList_load_row rfl 26 _ rfl x rfl 26 _ (0, 0) _ N3 Try.underlying26 rfl (by kernel_rfl) ?_)
        refine FEW.out.mono ?_
        rintro e w4 ⟨rfl, hb4⟩
        have N4 := N3.keep hb4 N3.lt
        have HL4 := Lib.hid (HL3.out.more hb4)
        have HLS4 := Lib.hid (HLS3.out.keep hb4)
        clear hb4 N3 HL3 HLS3 IR FEW
        go_wp2_with fail
        refine (room_any HL4.out.sys.log).mono ?_
        rintro e w5 ⟨rfl, n5, rfl⟩
        have N5 := N4.drewN n5
        have HL5 := Lib.hid (HL4.out.more (drewN_below w4 n5))
        have HLS5 := Lib.hid (HLS4.out.keep (drewN_below w4 n5))
        clear N4 HL4 HLS4
        generalize w4.drewN n5 = w5 at *
        have IR5 : Hid (IsRec w5 (.agg (recCells r (.slice ta r.txns.length tc) (.slice pa r.pages.length pc))) r) := ⟨_, _, rfl, HLS5.out⟩
        go_wp2_with (refine wpList_load_row rfl 26 _ rfl x rfl 26 _ (0, 0) _ N5 Try.underlying26 rfl (by kernel_rfl) ?_)
        refine (HL5.out.append IR5.out HFIT.out).mono ?_
        rintro e w6 ⟨rfl, FL6, hL6, st6⟩
        have N6 : Blk w6 x 26 (recCells r (.slice ta r.txns.length tc) (.slice pa r.pages.length pc)) := (st6.block x N5.lt hx0.out).trans N5
        have HL6 := Lib.hid hL6
        have HC6 := Lib.hid (HC.out.app r)
        have HLS6 := Lib.hid (HLS5.out.keepA st6.only (fun hr b hb hF => by have := HOLD.out.1 hr b hb; have := HL5.out.new b hF; omega) (fun hr b hb hF => by have := HOLD.out.2 hr b hb; have := HL5.out.new b hF; omega))
        clear N5 HLS5 IR5 st6 hx0 hL6 HL5
        go_upto_region 13 with fail
        go_cut [101, 56] (fun s101 s56 wx => s101 = .bool false ∧ s56 = .int .i64 k ∧ LiveL w wx FD2 FL6 g gd D (lg.app r).2.2)
        case first =>
          by_cases hm : May r
          · have MAY := Lib.hid (refMay_any (w := w6) ⟨_, _, rfl, HLS6.out⟩ HSZ.out true (by simp [hm]))
            unfold recV at MAY
            have hcases := Wl.app_room HC.out.ok hm
            have RM : Hid (∀ W, Below w6.heap.size w6 W → Calls Try.prog 35 #[.pointer (some ⟨g, 0, none⟩)] W (Peeks W (.int .i64 (lg.app r).2.2.room))) := fun W hW => room_any (HL6.out.sys.log.below hW)
            generalize (lg.app r).2.1 = er at *
            generalize (lg.app r).1 = at6 at *
            generalize (lg.app r).2.2 = l6 at *
            have hr64 : (lg.room : Int) ≤ 64 := by have := HC.out.ok.s64; unfold Wl.room; omega
            have hr65 : (l6.room : Int) ≤ 64 := by have := HC6.out.ok.s64; unfold Wl.room; omega
            generalize l6.room = room2 at *
            generalize lg.room = room1 at *
            clear hm HLS6
            rcases hcases with ⟨rfl, hroom⟩ | ⟨rfl, hroom, hsame⟩
            · have hroom2 : ¬ (room2 : Int) < (room1 : Int) - 1 := by omega
              have hroom3 : ¬ (room2 : Int) < 0 := by omega
              clear hroom
              go_wp2_with (refine wpList_load_row rfl 26 _ rfl x rfl 26 _ (0, 0) _ N6 Try.underlying26 rfl (by kernel_rfl) ?_)
              refine MAY.out.mono ?_
              rintro e w7 ⟨rfl, hb7⟩
              have HB7 := Lib.hid hb7
              clear hb7 N6
              go_wp2_with fail
              refine (RM.out _ HB7.out).mono ?_
              rintro e w8 ⟨rfl, n8, rfl⟩
              have HB8 := Lib.hid (below2 HB7.out (drewN_below w7 n8))
              generalize w7.drewN n8 = w8 at *
              clear HB7
              go_wp2_with fail
              refine (RM.out _ HB8.out).mono ?_
              rintro e w9 ⟨rfl, n9, rfl⟩
              have HB9 := Lib.hid (below2 HB8.out (drewN_below w8 n9))
              generalize w8.drewN n9 = w9 at *
              clear HB8
              go_wp2_with fail
              go_meet
              exact ⟨by first | rfl | (congr 1; simp only [Bool.or_eq_false_iff, decide_eq_false_iff_not]; omega), rfl, HL6.out.more HB9.out⟩
            · subst hroom
              subst hsame
              have hroom2 : ¬ (room2 : Int) < 0 - 1 := by omega
              have hroom3 : ¬ (room2 : Int) < 0 := by omega
              go_wp2_with (refine wpList_load_row rfl 26 _ rfl x rfl 26 _ (0, 0) _ N6 Try.underlying26 rfl (by kernel_rfl) ?_)
              refine MAY.out.mono ?_
              rintro e w7 ⟨rfl, hb7⟩
              have HB7 := Lib.hid hb7
              clear hb7 N6
              go_wp2_with fail
              refine (RM.out _ HB7.out).mono ?_
              rintro e w8 ⟨rfl, n8, rfl⟩
              have HB8 := Lib.hid (below2 HB7.out (drewN_below w7 n8))
              generalize w7.drewN n8 = w8 at *
              clear HB7
              go_wp2_with fail
              refine (RM.out _ HB8.out).mono ?_
              rintro e w9 ⟨rfl, n9, rfl⟩
              have HB9 := Lib.hid (below2 HB8.out (drewN_below w8 n9))
              generalize w8.drewN n9 = w9 at *
              clear HB8
              go_wp2_with fail
              go_meet
              exact ⟨by first | rfl | (congr 1; simp only [Bool.or_eq_false_iff, decide_eq_false_iff_not]; omega), rfl, HL6.out.more HB9.out⟩
          · have MAY := Lib.hid (refMay_any (w := w6) ⟨_, _, rfl, HLS6.out⟩ HSZ.out false (by simp [hm]))
            unfold recV at MAY
            generalize (lg.app r).2.1 = er at *
            generalize (lg.app r).1 = at6 at *
            generalize (lg.app r).2.2 = l6 at *
            clear hm HLS6
            go_wp2_with (refine wpList_load_row rfl 26 _ rfl x rfl 26 _ (0, 0) _ N6 Try.underlying26 rfl (by kernel_rfl) ?_)
            refine MAY.out.mono ?_
            rintro e w7 ⟨rfl, hb7⟩
            have HL7 := Lib.hid (HL6.out.more hb7)
            clear hb7 N6 HL6
            go_wp2_with fail
            go_meet
            exact ⟨rfl, rfl, HL7.out⟩
        case rest =>
          obtain ⟨rfl, rfl, hl7⟩ := hcut
          have HL7 := Lib.hid hl7
          clear hl7 HL6 N6 HLS6 HC
          generalize (lg.app r).2.2 = l6 at *
          clear HSZ HOLD HFIT
          by_cases hkf : k < fl.length
          · obtain ⟨bf, of, cs, rfl, hblt, hcs, hcc⟩ := HF.out k _ (List.getElem?_eq_getElem hkf)
            subst hcs
            have cf : wc.cell? ⟨bf, of + k, none⟩ = some (.bool fl[k]) := (HL7.out.below.cell (p := ⟨bf, of + k, none⟩) hblt).trans (by simpa using hcc 0 _ rfl)
            clear hcc
            cases hfk : fl[k] with
            | true =>
              rw [hfk] at cf
              have hroom := HC6.out.log (by omega)
              have RM7 := Lib.hid (room_any HL7.out.sys.log)
              have hC8 := Lib.hid (HC6.out.flush (by omega))
              have herr := HC6.out.err
              go_upto_region 16 with fail
              clear cf
              go_wp2_with fail
              refine RM7.out.mono ?_
              rintro e w8 ⟨rfl, n8, rfl⟩
              have HL8 := Lib.hid (HL7.out.more (drewN_below wc n8))
              generalize wc.drewN n8 = w8 at *
              clear RM7 HL7
              go_wp2_with fail
              refine (HL8.out.flush (HC6.out.hep (by omega)) HC6.out.hw).mono ?_
              rintro e w9 ⟨rfl, FD9, hL9, -⟩
              rw [herr]
              have HL9 := Lib.hid hL9
              have RM9 := Lib.hid (room_any hL9.sys.log)
              rw [show (l6.flush D).2.1.room = l6.room by rw [hroom]; rfl] at RM9
              clear HL8 hL9 hroom herr
              generalize (l6.flush D).2.1 = l9 at *
              generalize (l6.flush D).1 = D9 at *
              go_wp2_with fail
              refine RM9.out.mono ?_
              rintro e w10 ⟨rfl, n10, rfl⟩
              have HL10 := Lib.hid (HL9.out.more (drewN_below w9 n10))
              generalize w9.drewN n10 = w10 at *
              clear RM9 HL9
              go_wp2_with fail
              go_roundw
              case rel => exact ⟨k + 1, FD9, FL6, D9, l9, by go_num, by omega, HL10.out, hC8.out⟩
              case measure => simp [intOf]; omega
            | false =>
              rw [hfk] at cf
              go_upto_if 111 with fail
              clear cf
              go_wp2_with fail
              go_roundw
              case rel => exact ⟨k + 1, FD2, FL6, D, l6, by go_num, by omega, HL7.out, HC6.out⟩
              case measure => simp [intOf]; omega
          · have hkf2 : ¬ (k : Int) < fl.length := by omega
            go_wp2_with fail
            go_roundw
            case rel => exact ⟨k + 1, FD2, FL6, D, l6, by go_num, by omega, HL7.out, HC6.out⟩
            case measure => simp [intOf]; omega
      · have FEW := Lib.hid (few_no IR.out HSZ.out hf)
        clear hf
        go_wp2_with (refine wpList_load_row rfl 26 _ rfl x rfl 26 _ (0, 0) _ N3 Try.underlying26 rfl (by kernel_rfl) ?_)
        refine FEW.out.mono ?_
        rintro e w4 ⟨rfl, hb4⟩
        have HB4 := Lib.hid (HL3.out.more hb4).below
        clear hb4 N3 HL3 HLS3 IR FEW
        go_wp2
        go_ret
        exact ⟨rfl, HB4.out⟩
    · obtain rfl : k = l.length := by omega
      go_wp2
      go_ret
      exact ⟨rfl, HB.out⟩
theorem walkWalRoom (n : Int) (v : Value) (l : List Rc) (vf : Value) (fl : List Bool) (w : World) (_ : (Lit.int .i64 n).wf = true) (hv : IsRecs w v l) (hf : IsBools w vf fl) :
    Calls Try.prog 9 #[.int .i64 n, v, vf] w fun e w' => e = .returned (.bool true) ∧ Below w.heap.size w w' := by
  by_cases h1 : l.length ≤ 100
  · by_cases h2 : fl.length ≤ 200
    · exact walRoom_some n v vf l fl w hv hf h1 h2
    · exact walRoom_long2 n v vf l fl w hv hf h1 (by omega)
  · exact walRoom_long1 n v vf l fl w hv hf (by omega)
end Go.Proofs.Ytopihafmajadfaa

/- careenlaw05.WalRoom: it returns true for every input, and leaves its arguments as they were: the row's proof, out of the walk.
   Conditions: none beside the row's own (each argument is read as data). -/
namespace Go.Proofs.Ytopihafmajadfaa.walRoom
open Go.ChangeShapes Go.WideShapes Go.ChangeAt Go.RowKit Go.Joins
open Go.ChangeMaps (open_string shut_string)
set_option linter.unusedVariables false

theorem own : ownKnob Try.prog.godebug = none := by kernel_rfl
theorem laidOut : laidOutB Try.prog = true := by kernel_rfl

set_option maxRecDepth 100000 in
theorem lifted (os : Os) (started : os.Started) (H : Type) (enc : TypeId × Value → H) :
    ReturnsInHanded {} Try.checked os 9 .any (Rows.walRoomSpec.pre6 enc Try.prog Try.f9 Rows.walRoomRow.domain false) (Rows.walRoomSpec.post enc Try.prog Try.f9 false true false false) := by
  refine returnsInHanded_of_change (C := Try.checked) own started (by kernel_rfl) Try.func9
    (ChangeSpec.witness6 (enc := enc) (C := Try.checked) false ⟨#[], #[.int .i64 0, .slice none 0 0, .slice none 0 0], []⟩ 8 (by kernel_rfl) (by kernel_rfl) (by kernel_rfl) (by kernel_rfl)) ?_
  intro W base args ds gs before hval0 hW hcnd _
  have hval : ∀ (j : Nat) t v, Try.f9.params[j]? = some t → args[j]? = some v → Value.okWide Try.prog W .any base t v := hval0
  have hW' := hW
  obtain ⟨p, q, hA0, hV, rfl, hfz, hnd⟩ := hW
  have hA : DataW.TrodAll enc Try.prog W 0 (fun _ => true) true Try.f9.params.toList args.toList ds p := hA0
  rw [Try.params9] at hA hval
  obtain ⟨v0, vs0, d0, ds0, p0, q0, hargs, rfl, rfl, h0, r0⟩ := trodAll_cons hA
  obtain ⟨v1, vs1, d1, ds1, p1, q1, rfl, rfl, rfl, h1, r1⟩ := trodAll_cons r0
  obtain ⟨v2, vs2, d2, ds2, p2, q2, rfl, rfl, rfl, h2, r2⟩ := trodAll_cons r1
  obtain ⟨rfl, rfl, rfl⟩ := trodAll_nil r2
  obtain rfl : args = #[v0, v1, v2] := by cases args; simp_all
  obtain ⟨rfl, rfl⟩ := trodVars_none hV
  have k0 := h0
  have lt0 : ∀ x ∈ p0, x.block < W.heap.size := by obtain ⟨m, hm⟩ := k0; exact DataW.trod_lt m _ _ _ hm
  have k1 := h1
  have lt1 : ∀ x ∈ p1, x.block < W.heap.size := by obtain ⟨m, hm⟩ := k1; exact DataW.trod_lt m _ _ _ hm
  have k2 := h2
  have lt2 : ∀ x ∈ p2, x.block < W.heap.size := by obtain ⟨m, hm⟩ := k2; exact DataW.trod_lt m _ _ _ hm
  obtain ⟨a0, rfl, rfl, rfl, w0⟩ := open_int Try.underlying3 (hval 0 3 v0 rfl rfl) h0
  obtain ⟨a1, w1⟩ := open_recs (hval 1 40 v1 rfl rfl) h1
  obtain ⟨a2, w2⟩ := open_bools (hval 2 74 v2 rfl rfl) h2
  clear hA0 hval0
  refine (walkWalRoom a0 v1 a1 v2 a2 W w0 w1 w2).mono fun e W' ⟨he, bel⟩ => ?_
  subst he
  exact ⟨_, rfl, _, _, _, [], _, [], hW', trodAll_mk1 (shut_bool Try.underlying4 _), (trodAll_cons_mk (Below.trod laidOut (by kernel_rfl) (of_decide_eq_true (by kernel_rfl)) k0 bel lt0) (trodAll_cons_mk (Below.trod laidOut (by kernel_rfl) (of_decide_eq_true (by kernel_rfl)) k1 bel lt1) (trodAll_cons_mk (Below.trod laidOut (by kernel_rfl) (of_decide_eq_true (by kernel_rfl)) k2 bel lt2) trodAll_mk0))), rfl, bel.frame _, fun h => by cases h⟩

theorem over : Rows.walRoomRow.holds Try.pinned (OpenSpec.ofChange Rows.walRoomSpec) :=
  OpenClaim.holds_of_wide 9 Try.f9 rfl rfl rfl rfl rfl rfl rfl ⟨rfl, rfl, rfl, rfl, rfl⟩ rfl rfl rfl rfl rfl (by kernel_rfl) Try.func9 (by kernel_rfl)
    (of_decide_eq_true (by kernel_rfl)) (by unfold Func.isWrapper; first | (rw [if_pos (by decide +kernel)]; kernel_rfl) | (rw [if_neg (by decide +kernel)]; exact ⟨rfl, rfl⟩))
    (fun os started H enc _ => lifted os started H enc)

/-- The given statement. -/
theorem proved : Rows.WalRoomSaid := over
end Go.Proofs.Ytopihafmajadfaa.walRoom
