/- careenref14: One. -/
import Derived.Test.YtkodnjefdophmaaRdJ
import Derived.Test.YtkodnjefdophmaaPgEm
namespace Go.Proofs.Ytkodnjefdophmaa
open Go.RowKit

section
set_option maxRecDepth 100000
set_option maxHeartbeats 16000000
theorem refOne14_any {w : World} {v : Value} {L : List Ent} (n : Int) (hL : IsEnts w v L) :
    Calls Try.prog 15 #[v, .int .i64 n] w fun e w' => e = .returned (.agg #[.int .i64 (Hs.oneL L n).1, .string (Hs.oneL L n).2]) ∧ Below w.heap.size w w' := by
  obtain ⟨a, cap, rfl, hl1, hl2, hx⟩ := hL
  unfold maxLen at hl2
  have EM := Lib.hid pgRefEmpty_any
  have HX := Lib.hid hx
  clear hx
  have R0 := Blk.new w 30 #[.int .i64 0, .string ⟨#[]⟩]
  have hB := (Below.refl w.heap.size w).alloc (Nat.le_refl _) (.cells #[.int .i64 0, .string ⟨#[]⟩] 30)
  go_enter Try.func15, Try.ntmps15
  go_wp2_with fail
  generalize w.alloc _ = w1 at *
  refine (EM.out _).mono ?_
  rintro e w2 ⟨rfl, hb⟩
  replace R0 := R0.keep hb R0.lt
  have hB2 := hB.trans (hb.mono hB.size)
  have N0 := Blk.new w2 30 #[.int .i64 0, .string ⟨#[]⟩]
  have P0 := N0.setRow #[.int .i64 0, .string noughts]
  have R1 := (R0.alloc (.cells #[.int .i64 0, .string ⟨#[]⟩] 30)).farRow (k := w2.heap.size) (by have := R0.lt; omega) #[.int .i64 0, .string noughts]
  have HB3 := Lib.hid (below_setRow (hB2.alloc hB2.size (.cells #[.int .i64 0, .string ⟨#[]⟩] 30)) (g := w2.heap.size) hB2.size #[.int .i64 0, .string noughts])
  have hgp := hB2.size
  have hne : w.heap.size ≠ w2.heap.size := by have := R0.lt; omega
  have HNE := Lib.hid hne
  clear hB2 hB hb EM R0 hne
  go_upto_region 2 with (refine wpList_store_row rfl 30 _ _ rfl w2.heap.size _ rfl rfl 30 _ N0 (by kernel_rfl) (by simp) (by simp [Value.oneCell']) ?_)
  clear N0
  change Code.wp _ _ _ _ ((w2.alloc (.cells #[.int .i64 0, .string ⟨#[]⟩] 30)).setRow w2.heap.size #[.int .i64 0, .string noughts])
  generalize (w2.alloc _).setRow _ _ = w3 at *
  generalize w2.heap.size = gp at *
  have HGP := Lib.hid hgp
  clear hgp
  go_wp2_with fail
  go_loopw [6] (fun vk wr => ∃ k : Nat, vk = .int .i64 k ∧ k ≤ L.length ∧ Below w.heap.size w wr ∧ Blk wr gp 30 #[.int .i64 (Hs.oneL (L.take k) n).1, .string (Hs.oneL (L.take k) n).2] ∧ Blk wr w.heap.size 30 #[.int .i64 0, .string ⟨#[]⟩]) (fun vk _ => L.length - (intOf vk).toNat)
  case atStart => exact ⟨0, rfl, Nat.zero_le _, HB3.out, P0, R1⟩
  case round =>
    obtain ⟨k, rfl, hk, hB, hP, hR⟩ := hrel
    clear HB3 P0 R1
    have HB := Lib.hid hB
    clear hB
    by_cases hlt : k < L.length
    · have HLT := Lib.hid hlt
      have hkI : (k : Int) < L.length := by omega
      obtain ⟨b, off, ta, tc, pa, pc, rfl, lt1, la, c0, ci⟩ := Recs12.at_ (EntsAt.keep HX.out HB.out) k hlt
      have HTK := Lib.hid (Hs.one_take hlt n)
      generalize L[k] = x at *
      clear hlt
      obtain ⟨at_, r⟩ := x
      simp only at la ci c0
      obtain ⟨q, hq⟩ : ∃ q : Hs.Pge, q = Hs.oneL (L.take k) n := ⟨_, rfl⟩
      rw [← hq] at hP HTK
      clear hq
      obtain ⟨q1, q2⟩ := q
      obtain ⟨pg, hpg⟩ : ∃ pg, pg = r.page := ⟨_, rfl⟩
      have c3 : wr.cell? ⟨b, off + k * 12 + 1 + 2, none⟩ = some (.int .i64 pg) := by rw [hpg]; exact ci 2 _ rfl
      by_cases hpn : pg = n
      · have HST := Lib.hid (HTK.out.trans (if_pos (hpg.symm.trans hpn)))
        have BH : Hid (∀ W, Below wr.drew.heap.size wr.drew W → Calls Try.prog 18 #[.agg #[.int .i64 q1, .string q2], .int .i64 at_, .agg #[.int .i64 r.kind, .int .i64 r.txn, .int .i64 r.page, .int .i64 r.off, .int .i64 r.prev, .int .i64 r.next, .int .i64 r.beg, .string r.before, .string r.after, .slice ta r.txns.length tc, .slice pa r.pages.length pc]] W
            fun e w' => e = .returned (.agg #[.int .i64 (Hs.apP (q1, q2) at_ r).1, .string (Hs.apP (q1, q2) at_ r).2]) ∧ Below W.heap.size W w') := fun W hW => by
          have := pgRefApply_any q1 at_ q2 (r := r) (w := W) ⟨_, _, rfl, (la.keep (w' := wr.drew) (Below.refl _ _).drew).keep hW⟩
          rwa [applyR_P] at this
        have XC : Hid (∀ W, Below wr.drew.heap.size wr.drew W → (W.cell? ⟨gp, 0, none⟩ = some (.int .i64 q1) ∧ W.cell? ⟨gp, 1, none⟩ = some (.string q2)) ∧ W.cell? ⟨b, off + k * 12, none⟩ = some (.int .i64 at_) ∧
            RecAt W b (off + k * 12 + 1) r (.slice ta r.txns.length tc) (.slice pa r.pages.length pc) ∧ Blk W gp 30 #[.int .i64 q1, .string q2] ∧ Blk W w.heap.size 30 #[.int .i64 0, .string ⟨#[]⟩]) := fun W hW => by
          have hg := hP.drew.keep hW hP.lt
          have hW' : Below wr.heap.size wr W := (Below.refl _ _).drew.trans hW
          exact ⟨⟨hg.cell 0, hg.cell 1⟩, (hW'.cell (p := ⟨b, off + k * 12, none⟩) lt1).trans c0, .mk' fun i u hi => (hW'.cell (p := ⟨b, off + k * 12 + 1 + i, none⟩) lt1).trans (ci i u hi), hg, hR.drew.keep hW hR.lt⟩
        have I2 := Lib.hid hkI
        have HPN := Lib.hid (hpn.symm.trans hpg)
        clear hpg HTK la ci hP hR
        subst hpn
        go_upto_region 6 with fail
        clear c0 c3 hkI
        refine' wp_region_conf 12 (.is _ :: .is _ :: .is _ :: .is _ :: .is _ :: .is _ :: .is _ :: .is _ :: .is _ :: .is _ :: .is _ :: .is _ :: []) (by kernel_rfl) (by kernel_rfl) (by kernel_rfl) (by kernel_rfl) rfl ?main
        case main =>
          iterate 1 (
            apply obs_step
            · rfl
            · intro w9 hE9 hk9
              have f0 := (XC.out w9 hE9).1.1
              have f1 := (XC.out w9 hE9).1.2
              clear hk9 hE9
              as_aux_lemma =>
                go_wp2
                refine post_eq ?_ (Below.refl _ _)
                simp only [Act.put, List.setIfInBounds_toArray, List.set_cons_zero, List.set_cons_succ]
                try rfl
            · simp only [Act.put, List.setIfInBounds_toArray, List.set_cons_zero, List.set_cons_succ]
              rfl)
          iterate 2 (
            apply obs_step
            · rfl
            · intro w9 hE9 hk9
              clear hk9 hE9
              as_aux_lemma =>
                go_wp2
                refine post_eq ?_ (Below.refl _ _)
                simp only [Act.put, List.setIfInBounds_toArray, List.set_cons_zero, List.set_cons_succ]
                try rfl
            · simp only [Act.put, List.setIfInBounds_toArray, List.set_cons_zero, List.set_cons_succ]
              rfl)
          iterate 1 (
            apply obs_step
            · rfl
            · intro w9 hE9 hk9
              have i2 := I2.out
              clear hk9 hE9
              as_aux_lemma =>
                go_wp2
                refine post_eq ?_ (Below.refl _ _)
                simp only [Act.put, List.setIfInBounds_toArray, List.set_cons_zero, List.set_cons_succ]
                try rfl
            · simp only [Act.put, List.setIfInBounds_toArray, List.set_cons_zero, List.set_cons_succ]
              rfl)
          iterate 1 (
            apply obs_step
            · rfl
            · intro w9 hE9 hk9
              clear hk9 hE9
              as_aux_lemma =>
                go_wp2
                refine post_eq ?_ (Below.refl _ _)
                simp only [Act.put, List.setIfInBounds_toArray, List.set_cons_zero, List.set_cons_succ]
                try rfl
            · simp only [Act.put, List.setIfInBounds_toArray, List.set_cons_zero, List.set_cons_succ]
              rfl)
          iterate 1 (
            apply obs_step
            · rfl
            · intro w9 hE9 hk9
              have f2 := (XC.out w9 hE9).2.1
              clear hk9 hE9
              as_aux_lemma =>
                go_wp2
                refine post_eq ?_ (Below.refl _ _)
                simp only [Act.put, List.setIfInBounds_toArray, List.set_cons_zero, List.set_cons_succ]
                try rfl
            · simp only [Act.put, List.setIfInBounds_toArray, List.set_cons_zero, List.set_cons_succ]
              rfl)
          iterate 2 (
            apply obs_step
            · rfl
            · intro w9 hE9 hk9
              clear hk9 hE9
              as_aux_lemma =>
                go_wp2
                refine post_eq ?_ (Below.refl _ _)
                simp only [Act.put, List.setIfInBounds_toArray, List.set_cons_zero, List.set_cons_succ]
                try rfl
            · simp only [Act.put, List.setIfInBounds_toArray, List.set_cons_zero, List.set_cons_succ]
              rfl)
          iterate 1 (
            apply obs_step
            · rfl
            · intro w9 hE9 hk9
              have i2 := I2.out
              clear hk9 hE9
              as_aux_lemma =>
                go_wp2
                refine post_eq ?_ (Below.refl _ _)
                simp only [Act.put, List.setIfInBounds_toArray, List.set_cons_zero, List.set_cons_succ]
                try rfl
            · simp only [Act.put, List.setIfInBounds_toArray, List.set_cons_zero, List.set_cons_succ]
              rfl)
          iterate 1 (
            apply obs_step
            · rfl
            · intro w9 hE9 hk9
              clear hk9 hE9
              as_aux_lemma =>
                go_wp2
                refine post_eq ?_ (Below.refl _ _)
                simp only [Act.put, List.setIfInBounds_toArray, List.set_cons_zero, List.set_cons_succ]
                try rfl
            · simp only [Act.put, List.setIfInBounds_toArray, List.set_cons_zero, List.set_cons_succ]
              rfl)
          iterate 1 (
            apply obs_step
            · rfl
            · intro w9 hE9 hk9
              obtain ⟨r0, r1, r2, r3, r4, r5, r6, r7, r8, r9, r10⟩ := (XC.out w9 hE9).2.2.1
              clear hk9 hE9
              as_aux_lemma =>
                go_wp2
                refine post_eq ?_ (Below.refl _ _)
                simp only [Act.put, List.setIfInBounds_toArray, List.set_cons_zero, List.set_cons_succ]
                try rfl
            · simp only [Act.put, List.setIfInBounds_toArray, List.set_cons_zero, List.set_cons_succ]
              rfl)
          iterate 1 (
            apply obs_step
            · rfl
            · intro w9 hE9 hk9
              have AP9 := BH.out w9 hE9
              clear hk9 hE9
              as_aux_lemma =>
                go_wp2_with fail
                refine (AP9.mono ?_)
                rintro e w10 ⟨rfl, hb10⟩
                go_wp2
                refine post_eq ?_ hb10
                simp only [Act.put, List.setIfInBounds_toArray, List.set_cons_zero, List.set_cons_succ]
                try rfl
            · simp only [Act.put, List.setIfInBounds_toArray, List.set_cons_zero, List.set_cons_succ]
              rfl)
          refine obs_end fun w9 hE9 _ => ?_
          have hkI := I2.out
          have hB9 := HB.out.drew.trans (hE9.mono HB.out.size)
          obtain ⟨_, _, _, P9, R9⟩ := XC.out w9 hE9
          have P5 := Lib.hid (P9.setRow #[.int .i64 (Hs.apP (q1, q2) at_ r).1, .string (Hs.apP (q1, q2) at_ r).2])
          have R5 := Lib.hid (R9.farRow (k := gp) HNE.out #[.int .i64 (Hs.apP (q1, q2) at_ r).1, .string (Hs.apP (q1, q2) at_ r).2])
          have HB5 := Lib.hid (below_setRow (g := gp) hB9 HGP.out #[.int .i64 (Hs.apP (q1, q2) at_ r).1, .string (Hs.apP (q1, q2) at_ r).2])
          clear hB9 hE9 XC BH HB R9
          go_wp2_with (refine wpList_store_row rfl 30 _ _ rfl gp _ rfl rfl 30 _ P9 (by kernel_rfl) rfl (by simp [Value.oneCell']) ?_)
          exact ⟨⟨k + 1, by go_num, HLT.out, HB5.out, by rw [HST.out]; exact P5.out, R5.out⟩, by simp [intOf]; have := HLT.out; omega⟩
      · have HST := Lib.hid (HTK.out.trans (if_neg (fun e => hpn (hpg.trans e))))
        clear la ci hpg HTK
        go_wp2
        exact ⟨⟨k + 1, by go_num, HLT.out, HB.out, by rw [HST.out]; exact hP, hR⟩, by simp [intOf]; have := HLT.out; omega⟩
    · obtain rfl : k = L.length := by omega
      rw [List.take_length] at hP
      obtain ⟨q1, q2, hq⟩ : ∃ q1 q2, Hs.oneL L n = (q1, q2) := ⟨_, _, rfl⟩
      rw [hq] at hP
      have HQ := Lib.hid hq
      clear hq
      have p0 := hP.cellAt (i := 0) (by simp)
      have p1 := hP.cellAt (i := 1) (by simp)
      simp at p0 p1
      clear hP
      go_wp2_with (refine wpList_store_row rfl 30 _ _ rfl w.heap.size _ rfl rfl 30 _ hR (by kernel_rfl) (by simp) (by simp [Value.oneCell']) ?_)
      exact bodyPost_ret (results_cell_row rfl _ _ w.heap.size 30 _ (0, 0) _ rfl (hR.setRow _) Try.underlying30 rfl (by kernel_rfl)) rfl ⟨by rw [HQ.out], below_setRow HB.out (Nat.le_refl _) _⟩
end
end Go.Proofs.Ytkodnjefdophmaa
