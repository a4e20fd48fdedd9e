/- careenref14: Pages. -/
import Derived.Test.YtkodnjefdophmaaRdH
import Derived.Test.YtkodnjefdophmaaOpenPgs
import Derived.Test.YtkodnjefdophmaaPgJ
import Derived.Test.YtkodnjefdophmaaOpenRecs
namespace Go.Proofs.Ytkodnjefdophmaa
open Go.RowKit

theorem own_void14 {w : World} {B g : Nat} {e : TypeId} {size : Nat} (hB : B ≤ g) (h : Blk w g e #[]) : w.ownsRow B e size (.slice (some ⟨g, 0, none⟩) 0 0) 0 [] :=
  ⟨by simp, .inr ⟨g, 0, #[], rfl, hB, h, Nat.le_refl _, by decide, by simp, by simp⟩⟩
theorem applyR_same (a : Int) (d : ByteArray) (x : Int) (r : Rc) : applyR a d x r = Hs.apP (a, d) x r := applyR_P a d x r
/-- A record within an entry. -/
theorem Recs12.at_ {w : World} {a : Option Addr} {L : List Ent} (h : EntsAt w a L) (k : Nat) (hk : k < L.length) : ∃ b off ta tc pa pc, a = some ⟨b, off, none⟩ ∧ b < w.heap.size ∧
    Lists w L[k].2 (.slice ta L[k].2.txns.length tc) (.slice pa L[k].2.pages.length pc) ∧ w.cell? ⟨b, off + k * 12, none⟩ = some (.int .i64 L[k].1) ∧
    ∀ i x, (recCells L[k].2 (.slice ta L[k].2.txns.length tc) (.slice pa L[k].2.pages.length pc))[i]? = some x → w.cell? ⟨b, off + k * 12 + 1 + i, none⟩ = some x := by
  obtain ⟨b, off, vt, vp, e, lt, c0, ci, hl⟩ := h k hk
  obtain ⟨ta, tc, rfl⟩ := hl.t.form
  obtain ⟨pa, pc, rfl⟩ := hl.p.form
  exact ⟨b, off, ta, tc, pa, pc, e, lt, hl, c0, ci⟩
theorem put2_own {w : World} {B e g n cap : Nat} {l : List Hs.Pge} (h : w.ownsRow B e 2 (.slice (some ⟨g, 0, none⟩) n cap) n (pgV l)) {k : Nat} (hk : k < l.length) (p : Hs.Pge) :
    ((w.setCell ⟨g, k * 2, none⟩ (.int .i64 p.1)).setCell ⟨g, k * 2 + 1, none⟩ (.string p.2)).ownsRow B e 2 (.slice (some ⟨g, 0, none⟩) n cap) n (pgV (l.set k p)) := by
  have := ((h.stored (k * 2) (.int .i64 p.1)).1.stored (k * 2 + 1) (.string p.2)).1
  rwa [pgV_set l k hk p] at this

section
set_option maxRecDepth 100000
set_option maxHeartbeats 16000000
theorem refPages14_any {w : World} {v vs : Value} {L : List Ent} {l : List Hs.Pge} (from_ : Int) (hL : IsEnts w v L) (hv : PgSrc w vs l) (hn : l.length ≤ 1000) :
    Calls Try.prog 13 #[v, .int .i64 from_, vs] w fun e w' => (∃ u, e = .returned u ∧ w'.ownsRow w.heap.size 30 2 u l.length (pgV (pgs14 L from_ l))) ∧ Below w.heap.size w w' := by
  obtain ⟨a, cap, rfl, hl1, hl2, hx⟩ := hL
  unfold maxLen at hl2
  have HS := Lib.hid (fun W (h : Below w.heap.size w W) => (hv.keep h).src)
  obtain ⟨va, vc, rfl⟩ := hv.1.form
  have HX := Lib.hid hx
  have HN := Lib.hid hn
  obtain ⟨i0, hi0, hz⟩ := Option.map_eq_some_iff.1 infoPg
  simp only [Prod.mk.injEq] at hz
  obtain ⟨hz0, hz1, hz2⟩ := hz
  clear hx hv hn
  have hla : (l.length : Int) ≤ 1000 := by have := HN.out; omega
  go_enter Try.func13, Try.ntmps13
  go_wp2_with (at_builtin; refine wpList_append_full rfl (.tmp 10) (.tmp 11) 23 rfl w.heap.size 30 i0 (.agg #[.int .i64 0, .string ⟨#[]⟩]) 2 24 Try.underlying23 hi0 hz0 hz1 hz2 rfl (by decide) _ 0 [] rfl (own_void14 (Nat.le_refl _) (Blk.new w _ _)) (.inr ⟨w.heap.size, rfl⟩) _ _ _ rfl (HS.out _ ((Below.refl _ _).alloc (Nat.le_refl _) _)) (by simp only [maxLen]; omega) (by omega) (by simp) ?_)
  intro u w1 hown hb1 _
  have HB1 : Hid (Below w.heap.size w w1) := ((Below.refl w.heap.size w).alloc (Nat.le_refl _) (.cells #[] 30)).trans (hb1.mono (by simp))
  obtain ⟨ua, uc, rfl⟩ := own_slice hown
  have HO := Lib.hid hown
  clear hown hb1 hi0 hz0 hz1 hz2 HS
  go_wp2_with fail
  go_loopw [8] (fun vk wr => ∃ k : Nat, vk = .int .i64 k ∧ k ≤ L.length ∧ Below w.heap.size w wr ∧ wr.ownsRow w.heap.size 30 2 (.slice ua l.length uc) l.length (pgV (pgs14 (L.take k) from_ l))) (fun vk _ => L.length - (intOf vk).toNat)
  case atStart => exact ⟨0, rfl, Nat.zero_le _, HB1.out, HO.out⟩
  case round =>
    obtain ⟨k, rfl, hk, hB, hr⟩ := hrel
    clear HB1 HO
    have HB := Lib.hid hB
    have HR := Lib.hid hr
    clear hB hr
    by_cases hlt : k < L.length
    · have HLT := Lib.hid hlt
      have hkI : (k : Int) < L.length := by omega
      obtain ⟨b, off, ta, tc, pa, pc, rfl, lt1, la, c0, ci⟩ := Recs12.at_ (EntsAt.keep HX.out HB.out) k hlt
      have HTK := Lib.hid (pgs_take hlt from_ l)
      have HLEN := Lib.hid (pgs_len (L.take k) from_ l)
      generalize L[k] = x at *
      clear hlt
      obtain ⟨at_, r⟩ := x
      simp only at la ci c0
      generalize pgs14 (L.take k) from_ l = ps at *
      obtain ⟨pg, hpg⟩ : ∃ pg, pg = r.page := ⟨_, rfl⟩
      have c3 : wr.cell? ⟨b, off + k * 12 + 1 + 2, none⟩ = some (.int .i64 pg) := by rw [hpg]; exact ci 2 _ rfl
      by_cases hin : from_ ≤ at_ ∧ 0 ≤ pg ∧ pg < l.length
      · obtain ⟨h1, h2, h3⟩ := hin
        obtain ⟨P, rfl⟩ : ∃ P : Nat, pg = P := ⟨pg.toNat, by omega⟩
        have hPl : P < ps.length := by rw [HLEN.out]; omega
        obtain ⟨q, hq⟩ : ∃ q, ps[P]? = some q := ⟨_, List.getElem?_eq_getElem hPl⟩
        have HST := Lib.hid (HTK.out.trans (step_yes (x := (at_, r)) h1 hpg.symm hq))
        have HP := Lib.hid hPl
        have HQ := Lib.hid hq
        obtain ⟨q1, q2⟩ := q
        obtain ⟨g, cap2, hgv, hgv1, hgv2⟩ := own_form HR.out (by omega)
        obtain ⟨rfl, hgv3, rfl⟩ := Value.slice.inj hgv
        clear hgv hgv1 hgv2 hgv3
        have BH : Hid (∀ W, Below wr.drew.heap.size wr.drew W → Calls Try.prog 18 #[.agg #[.int .i64 q1, .string q2], .int .i64 at_, .agg #[.int .i64 r.kind, .int .i64 r.txn, .int .i64 r.page, .int .i64 r.off, .int .i64 r.prev, .int .i64 r.next, .int .i64 r.beg, .string r.before, .string r.after, .slice ta r.txns.length tc, .slice pa r.pages.length pc]] W
            fun e w' => e = .returned (.agg #[.int .i64 (Hs.apP (q1, q2) at_ r).1, .string (Hs.apP (q1, q2) at_ r).2]) ∧ Below W.heap.size W w') := fun W hW => by
          have := pgRefApply_any q1 at_ q2 (r := r) (w := W) ⟨_, _, rfl, (la.keep (w' := wr.drew) (Below.refl _ _).drew).keep hW⟩
          rwa [applyR_P] at this
        have XC : Hid (∀ W, Below wr.drew.heap.size wr.drew W → (W.cell? ⟨g, P * 2, none⟩ = some (.int .i64 q1) ∧ W.cell? ⟨g, P * 2 + 1, none⟩ = some (.string q2)) ∧ W.cell? ⟨b, off + k * 12, none⟩ = some (.int .i64 at_) ∧
            RecAt W b (off + k * 12 + 1) r (.slice ta r.txns.length tc) (.slice pa r.pages.length pc) ∧ W.ownsRow w.heap.size 30 2 (.slice (some ⟨g, 0, none⟩) l.length uc) l.length (pgV ps)) := fun W hW => by
          have hg := own_below (w := wr.drew) (w' := W) (own_below HR.out (Below.refl _ _).drew) hW
          obtain ⟨e0, e1⟩ := pgV_of HQ.out
          have hW' : Below wr.heap.size wr W := (Below.refl _ _).drew.trans hW
          refine ⟨⟨(hg.cellAt (P * 2) (by have := HP.out; have := HLEN.out; omega)).trans e0, (hg.cellAt (P * 2 + 1) (by have := HP.out; have := HLEN.out; omega)).trans e1⟩, (hW'.cell (p := ⟨b, off + k * 12, none⟩) lt1).trans c0, .mk' fun i u hi => (hW'.cell (p := ⟨b, off + k * 12 + 1 + i, none⟩) lt1).trans (ci i u hi), hg⟩
        have HPG := Lib.hid hpg
        have I1 := Lib.hid h3
        have I2 := Lib.hid hkI
        clear hpg hPl hq HTK
        clear la ci
        go_upto_region 7 with fail
        clear c0 c3 h1 h2 h3 hkI
        refine' wp_region_conf 18 (.is _ :: .is _ :: .is _ :: .is _ :: .is _ :: .is _ :: .is _ :: .is _ :: .is _ :: .is _ :: .is _ :: .is _ :: .is _ :: .is _ :: .is _ :: .is _ :: .is _ :: .is _ :: []) (by kernel_rfl) (by kernel_rfl) (by kernel_rfl) (by kernel_rfl) rfl ?main
        case main =>
          iterate 4 (
            apply obs_step
            · rfl
            · intro w9 hE9 hk9
              clear hk9 hE9
              as_aux_lemma =>
                go_wp2
                refine post_eq ?_ (Below.refl _ _)
                simp only [Act.put, List.setIfInBounds_toArray, List.set_cons_zero, List.set_cons_succ]
                try rfl
            · simp only [Act.put, List.setIfInBounds_toArray, List.set_cons_zero, List.set_cons_succ]
              rfl)
          iterate 1 (
            apply obs_step
            · rfl
            · intro w9 hE9 hk9
              have i1 := I1.out
              clear hk9 hE9
              as_aux_lemma =>
                go_wp2
                refine post_eq ?_ (Below.refl _ _)
                simp only [Act.put, List.setIfInBounds_toArray, List.set_cons_zero, List.set_cons_succ]
                try rfl
            · simp only [Act.put, List.setIfInBounds_toArray, List.set_cons_zero, List.set_cons_succ]
              rfl)
          iterate 1 (
            apply obs_step
            · rfl
            · intro w9 hE9 hk9
              have f0 := (XC.out w9 hE9).1.1
              have f1 := (XC.out w9 hE9).1.2
              clear hk9 hE9
              as_aux_lemma =>
                go_wp2
                refine post_eq ?_ (Below.refl _ _)
                simp only [Act.put, List.setIfInBounds_toArray, List.set_cons_zero, List.set_cons_succ]
                try rfl
            · simp only [Act.put, List.setIfInBounds_toArray, List.set_cons_zero, List.set_cons_succ]
              rfl)
          iterate 2 (
            apply obs_step
            · rfl
            · intro w9 hE9 hk9
              clear hk9 hE9
              as_aux_lemma =>
                go_wp2
                refine post_eq ?_ (Below.refl _ _)
                simp only [Act.put, List.setIfInBounds_toArray, List.set_cons_zero, List.set_cons_succ]
                try rfl
            · simp only [Act.put, List.setIfInBounds_toArray, List.set_cons_zero, List.set_cons_succ]
              rfl)
          iterate 1 (
            apply obs_step
            · rfl
            · intro w9 hE9 hk9
              have i2 := I2.out
              clear hk9 hE9
              as_aux_lemma =>
                go_wp2
                refine post_eq ?_ (Below.refl _ _)
                simp only [Act.put, List.setIfInBounds_toArray, List.set_cons_zero, List.set_cons_succ]
                try rfl
            · simp only [Act.put, List.setIfInBounds_toArray, List.set_cons_zero, List.set_cons_succ]
              rfl)
          iterate 1 (
            apply obs_step
            · rfl
            · intro w9 hE9 hk9
              clear hk9 hE9
              as_aux_lemma =>
                go_wp2
                refine post_eq ?_ (Below.refl _ _)
                simp only [Act.put, List.setIfInBounds_toArray, List.set_cons_zero, List.set_cons_succ]
                try rfl
            · simp only [Act.put, List.setIfInBounds_toArray, List.set_cons_zero, List.set_cons_succ]
              rfl)
          iterate 1 (
            apply obs_step
            · rfl
            · intro w9 hE9 hk9
              have f2 := (XC.out w9 hE9).2.1
              clear hk9 hE9
              as_aux_lemma =>
                go_wp2
                refine post_eq ?_ (Below.refl _ _)
                simp only [Act.put, List.setIfInBounds_toArray, List.set_cons_zero, List.set_cons_succ]
                try rfl
            · simp only [Act.put, List.setIfInBounds_toArray, List.set_cons_zero, List.set_cons_succ]
              rfl)
          iterate 2 (
            apply obs_step
            · rfl
            · intro w9 hE9 hk9
              clear hk9 hE9
              as_aux_lemma =>
                go_wp2
                refine post_eq ?_ (Below.refl _ _)
                simp only [Act.put, List.setIfInBounds_toArray, List.set_cons_zero, List.set_cons_succ]
                try rfl
            · simp only [Act.put, List.setIfInBounds_toArray, List.set_cons_zero, List.set_cons_succ]
              rfl)
          iterate 1 (
            apply obs_step
            · rfl
            · intro w9 hE9 hk9
              have i2 := I2.out
              clear hk9 hE9
              as_aux_lemma =>
                go_wp2
                refine post_eq ?_ (Below.refl _ _)
                simp only [Act.put, List.setIfInBounds_toArray, List.set_cons_zero, List.set_cons_succ]
                try rfl
            · simp only [Act.put, List.setIfInBounds_toArray, List.set_cons_zero, List.set_cons_succ]
              rfl)
          iterate 1 (
            apply obs_step
            · rfl
            · intro w9 hE9 hk9
              clear hk9 hE9
              as_aux_lemma =>
                go_wp2
                refine post_eq ?_ (Below.refl _ _)
                simp only [Act.put, List.setIfInBounds_toArray, List.set_cons_zero, List.set_cons_succ]
                try rfl
            · simp only [Act.put, List.setIfInBounds_toArray, List.set_cons_zero, List.set_cons_succ]
              rfl)
          iterate 1 (
            apply obs_step
            · rfl
            · intro w9 hE9 hk9
              obtain ⟨r0, r1, r2, r3, r4, r5, r6, r7, r8, r9, r10⟩ := (XC.out w9 hE9).2.2.1
              clear hk9 hE9
              as_aux_lemma =>
                go_wp2
                refine post_eq ?_ (Below.refl _ _)
                simp only [Act.put, List.setIfInBounds_toArray, List.set_cons_zero, List.set_cons_succ]
                try rfl
            · simp only [Act.put, List.setIfInBounds_toArray, List.set_cons_zero, List.set_cons_succ]
              rfl)
          iterate 1 (
            apply obs_step
            · rfl
            · intro w9 hE9 hk9
              have AP9 := BH.out w9 hE9
              clear hk9 hE9
              as_aux_lemma =>
                go_wp2_with fail
                refine (AP9.mono ?_)
                rintro e w10 ⟨rfl, hb10⟩
                go_wp2
                refine post_eq ?_ hb10
                simp only [Act.put, List.setIfInBounds_toArray, List.set_cons_zero, List.set_cons_succ]
                try rfl
            · simp only [Act.put, List.setIfInBounds_toArray, List.set_cons_zero, List.set_cons_succ]
              rfl)
          iterate 1 (
            apply obs_step
            · rfl
            · intro w9 hE9 hk9
              have i1 := I1.out
              clear hk9 hE9
              as_aux_lemma =>
                go_wp2
                refine post_eq ?_ (Below.refl _ _)
                simp only [Act.put, List.setIfInBounds_toArray, List.set_cons_zero, List.set_cons_succ]
                try rfl
            · simp only [Act.put, List.setIfInBounds_toArray, List.set_cons_zero, List.set_cons_succ]
              rfl)
          refine obs_end fun w9 hE9 _ => ?_
          have hkI := I2.out
          have hB9 := HB.out.drew.trans (hE9.mono HB.out.size)
          obtain ⟨⟨f0, f1⟩, _, _, G9⟩ := XC.out w9 hE9
          have hG := (G9.lt g rfl).1
          have G10 := Lib.hid (put2_own G9 HP.out (Hs.apP (q1, q2) at_ r))
          rw [← HST.out] at G10
          have HB10 := Lib.hid ((hB9.setCell (p := ⟨g, P * 2, none⟩) hG (.int .i64 (Hs.apP (q1, q2) at_ r).1)).setCell (p := ⟨g, P * 2 + 1, none⟩) hG (.string (Hs.apP (q1, q2) at_ r).2))
          have fz0 := G9.frozenAt (P * 2)
          have fz1 := G9.frozenAt (P * 2 + 1)
          clear hB9 hE9 XC BH HB G9 HST HQ
          generalize (Hs.apP (q1, q2) at_ r).1 = z1 at *
          generalize (Hs.apP (q1, q2) at_ r).2 = z2 at *
          go_wp2
          exact ⟨⟨k + 1, by go_num, HLT.out, HB10.out, G10.out⟩, by simp [intOf]; have := HLT.out; omega⟩
      · have HST := Lib.hid (HTK.out.trans (step_no (x := (at_, r)) (fun h => hin (by rw [HLEN.out, ← hpg] at h; exact h))))
        have HPG := Lib.hid hpg
        clear la ci hpg HTK
        by_cases h1 : from_ ≤ at_
        · by_cases h2 : 0 ≤ pg
          · have h3 : ¬ pg < l.length := fun h3 => hin ⟨h1, h2, h3⟩
            clear hin
            go_wp2
            exact ⟨⟨k + 1, by go_num, HLT.out, HB.out, by rw [HST.out]; exact HR.out⟩, by simp [intOf]; have := HLT.out; omega⟩
          · clear hin
            go_wp2
            exact ⟨⟨k + 1, by go_num, HLT.out, HB.out, by rw [HST.out]; exact HR.out⟩, by simp [intOf]; have := HLT.out; omega⟩
        · clear hin
          go_wp2
          exact ⟨⟨k + 1, by go_num, HLT.out, HB.out, by rw [HST.out]; exact HR.out⟩, by simp [intOf]; have := HLT.out; omega⟩
    · obtain rfl : k = L.length := by omega
      rw [List.take_length] at HR
      go_wp2
      go_ret
      exact ⟨⟨_, rfl, HR.out⟩, HB.out⟩
end
end Go.Proofs.Ytkodnjefdophmaa
