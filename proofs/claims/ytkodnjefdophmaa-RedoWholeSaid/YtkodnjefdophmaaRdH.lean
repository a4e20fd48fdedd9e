/- Package redo: Pages. -/
import Derived.Test.YtkodnjefdophmaaRdF
import Derived.Test.YtkodnjefdophmaaRdG
import Derived.Test.YtkodnjefdophmaaChD
import Derived.Test.YtkodnjefdophmaaRegion
namespace Go.Proofs.Ytkodnjefdophmaa
open Go.RowKit

/-- The pages behind redo. -/
def pgs14 (L : List En) (from_ : Int) (ps : List Hs.Pge) : List Hs.Pge := Hs.apA.pages L from_ ps
def stp14 (from_ : Int) (ps : List Hs.Pge) (x : En) : List Hs.Pge := Hs.apA.step from_ ps x
theorem pgs_len (L : List En) (from_ : Int) (ps : List Hs.Pge) : (pgs14 L from_ ps).length = ps.length := Hs.apA.pages_len from_ L ps
theorem pgs_take {L : List En} {k : Nat} (h : k < L.length) (from_ : Int) (ps : List Hs.Pge) : pgs14 (L.take (k + 1)) from_ ps = stp14 from_ (pgs14 (L.take k) from_ ps) L[k] := Hs.pages_take h from_ ps
theorem step_no {from_ : Int} {ps : List Hs.Pge} {x : En} (h : ¬ (from_ ≤ x.1 ∧ 0 ≤ x.2.page ∧ x.2.page < ps.length)) : stp14 from_ ps x = ps := by
  unfold stp14 Ap.step
  by_cases h1 : from_ ≤ x.1 ∧ 0 ≤ x.2.page
  · rw [if_pos h1]
    have e : ps[x.2.page.toNat]? = none := by
      rw [List.getElem?_eq_none_iff]
      have h3 : ¬ x.2.page < ps.length := fun h2 => h ⟨h1.1, h1.2, h2⟩
      omega
    split
    · rfl
    · rename_i p hp
      exact absurd (e.symm.trans hp) (by simp)
  · rw [if_neg h1]
theorem step_yes {from_ : Int} {ps : List Hs.Pge} {x : En} {n : Nat} {q : Hs.Pge} (h1 : from_ ≤ x.1) (h2 : x.2.page = n) (h3 : ps[n]? = some q) : stp14 from_ ps x = ps.set n (Hs.apP q x.1 x.2) := by
  unfold stp14 Ap.step
  rw [if_pos ⟨h1, by omega⟩, show x.2.page.toNat = n by omega]
  split
  · rename_i hp
    exact absurd (h3.symm.trans hp) (by simp)
  · rename_i p hp
    obtain rfl : q = p := Option.some.inj (h3.symm.trans hp)
    rfl
theorem pgV_of {l : List Hs.Pge} {k : Nat} {q : Hs.Pge} (h : l[k]? = some q) : (pgV l)[k * 2]? = some (.int .i64 q.1) ∧ (pgV l)[k * 2 + 1]? = some (.string q.2) := by
  obtain ⟨hk, rfl⟩ := List.getElem?_eq_some_iff.1 h
  exact pgV_at l k hk
/-- A page's two cells, stored. -/
theorem Blk.put2 {w : World} {g t : Nat} {l : List Hs.Pge} (h : Blk w g t (pgV l).toArray) {k : Nat} (hk : k < l.length) (p : Hs.Pge) : Blk ((w.setCell ⟨g, k * 2, none⟩ (.int .i64 p.1)).setCell ⟨g, k * 2 + 1, none⟩ (.string p.2)) g t (pgV (l.set k p)).toArray := by
  have := (h.set (k * 2) (.int .i64 p.1)).set (k * 2 + 1) (.string p.2)
  rw [← pgV_set l k hk p]
  simpa using this

section
set_option maxRecDepth 100000
set_option maxHeartbeats 16000000
theorem rdPages_any {w : World} {v vs : Value} {L : List Ent} {l : List Hs.Pge} (from_ : Int) (hL : IsEnts w v L) (hz : ∀ x ∈ L, x.2.after.size ≤ maxLen) (hv : IsPgs w vs l) (hn : l.length ≤ 1000) (hzl : ∀ p ∈ l, p.2.size ≤ 100000) :
    Calls Try.prog 11 #[v, .int .i64 from_, vs] w fun e w' => (∃ g, e = .returned (.slice (some ⟨g, 0, none⟩) l.length l.length) ∧ w.heap.size ≤ g ∧ Blk w' g 30 (pgV (pgs14 L from_ l)).toArray) ∧ Below w.heap.size w w' := by
  obtain ⟨a, cap, rfl, hl1, hl2, hx⟩ := hL
  unfold maxLen at hl2
  have CP := Lib.hid (rdCopied_any hv hn hzl)
  obtain ⟨va, vc, rfl⟩ := hv.form
  have HX := Lib.hid hx
  have HZ := Lib.hid hz
  have HN := Lib.hid hn
  clear hx hz hv hn hzl
  go_enter Try.func11, Try.ntmps11
  go_wp2_with fail
  refine CP.out.mono ?_
  rintro e w1 ⟨⟨g, rfl, hg, hG⟩, hb⟩
  have HB1 := Lib.hid hb
  have HG1 := Lib.hid hG
  have HGW := Lib.hid hg
  clear hb hG hg CP
  go_wp2_with fail
  go_loopw [15] (fun vk wr => ∃ k : Nat, vk = .int .i64 k ∧ k ≤ L.length ∧ Below w.heap.size w wr ∧ Blk wr g 30 (pgV (pgs14 (L.take k) from_ l)).toArray) (fun vk _ => L.length - (intOf vk).toNat)
  case atStart => exact ⟨0, rfl, Nat.zero_le _, HB1.out, HG1.out⟩
  case round =>
    obtain ⟨k, rfl, hk, hB, hr⟩ := hrel
    clear HB1 HG1
    have HB := Lib.hid hB
    have HR := Lib.hid hr
    clear hB hr
    by_cases hlt : k < L.length
    · have HLT := Lib.hid hlt
      have hkI : (k : Int) < L.length := by omega
      have hm : L[k] ∈ L := List.getElem_mem hlt
      obtain ⟨b, off, vt, vp, rfl, lt1, la, ci⟩ := (EntsAt.keep HX.out HB.out).whole k hlt
      have HZR := Lib.hid (HZ.out _ hm)
      have HTK := Lib.hid (pgs_take hlt from_ l)
      have HLEN := Lib.hid (pgs_len (L.take k) from_ l)
      clear hm
      generalize L[k] = x at *
      clear hlt
      obtain ⟨at_, r⟩ := x
      simp only at la ci HZR
      generalize pgs14 (L.take k) from_ l = ps at *
      obtain ⟨ta, tc, rfl⟩ := la.t.form
      obtain ⟨pa, pc, rfl⟩ := la.p.form
      have c0 : wr.cell? ⟨b, off + k * 12 + 0, none⟩ = _ := ci 0 _ rfl
      have c1 : wr.cell? ⟨b, off + k * 12 + 1, none⟩ = _ := ci 1 _ rfl
      have c2 : wr.cell? ⟨b, off + k * 12 + 2, none⟩ = _ := ci 2 _ rfl
      have c3 : wr.cell? ⟨b, off + k * 12 + 3, none⟩ = _ := ci 3 _ rfl
      have c4 : wr.cell? ⟨b, off + k * 12 + 4, none⟩ = _ := ci 4 _ rfl
      have c5 : wr.cell? ⟨b, off + k * 12 + 5, none⟩ = _ := ci 5 _ rfl
      have c6 : wr.cell? ⟨b, off + k * 12 + 6, none⟩ = _ := ci 6 _ rfl
      have c7 : wr.cell? ⟨b, off + k * 12 + 7, none⟩ = _ := ci 7 _ rfl
      have c8 : wr.cell? ⟨b, off + k * 12 + 8, none⟩ = _ := ci 8 _ rfl
      have c9 : wr.cell? ⟨b, off + k * 12 + 9, none⟩ = _ := ci 9 _ rfl
      have c10 : wr.cell? ⟨b, off + k * 12 + 10, none⟩ = _ := ci 10 _ rfl
      have c11 : wr.cell? ⟨b, off + k * 12 + 11, none⟩ = _ := ci 11 _ rfl
      rw [Nat.add_zero] at c0
      clear ci
      have hn := Blk.new wr 39 #[.int .i64 0, .int .i64 0, .int .i64 0, .int .i64 0, .int .i64 0, .int .i64 0, .int .i64 0, .int .i64 0, .string ⟨#[]⟩, .string ⟨#[]⟩, .slice none 0 0, .slice none 0 0]
      have N3 := hn.setRow (entCells at_ r (.slice ta r.txns.length tc) (.slice pa r.pages.length pc))
      have hb3 := below_setRow ((Below.refl wr.heap.size wr).alloc (Nat.le_refl _) (.cells #[.int .i64 0, .int .i64 0, .int .i64 0, .int .i64 0, .int .i64 0, .int .i64 0, .int .i64 0, .int .i64 0, .string ⟨#[]⟩, .string ⟨#[]⟩, .slice none 0 0, .slice none 0 0] 39)) (Nat.le_refl _) (entCells at_ r (.slice ta r.txns.length tc) (.slice pa r.pages.length pc))
      have HL3 := Lib.hid (la.keep hb3)
      have HR3 := Lib.hid (HR.out.keep hb3 HR.out.lt)
      have HB3 := Lib.hid (below2 HB.out hb3)
      have hgy : g ≠ wr.heap.size := by have := HR.out.lt; omega
      have HGY := Lib.hid hgy
      clear hb3 HR HB la hgy
      go_upto_region 5 with (refine wpList_store_row rfl 39 _ _ rfl wr.heap.size _ rfl rfl 39 _ hn (by kernel_rfl) rfl (by simp [entCells, Value.oneCell']) ?_)
      change Code.wp _ _ _ _ ((wr.alloc (.cells #[.int .i64 0, .int .i64 0, .int .i64 0, .int .i64 0, .int .i64 0, .int .i64 0, .int .i64 0, .int .i64 0, .string ⟨#[]⟩, .string ⟨#[]⟩, .slice none 0 0, .slice none 0 0] 39)).setRow wr.heap.size (entCells at_ r (.slice ta r.txns.length tc) (.slice pa r.pages.length pc)))
      clear hn c0 c1 c2 c3 c4 c5 c6 c7 c8 c9 c10 c11 lt1
      generalize (wr.alloc _).setRow _ _ = w3 at *
      generalize wr.heap.size = y at *
      have d0 : w3.cell? ⟨y, 0, none⟩ = some (.int .i64 at_) := N3.cell 0
      have d3 : w3.cell? ⟨y, 3, none⟩ = some (.int .i64 r.page) := N3.cell 3
      obtain ⟨pg, hpg⟩ : ∃ pg, pg = r.page := ⟨_, rfl⟩
      rw [← hpg] at d3
      by_cases hin : from_ ≤ at_ ∧ 0 ≤ pg ∧ pg < l.length
      · obtain ⟨h1, h2, h3⟩ := hin
        obtain ⟨P, rfl⟩ : ∃ P : Nat, pg = P := ⟨pg.toNat, by omega⟩
        have hPl : P < ps.length := by rw [HLEN.out]; omega
        obtain ⟨q, hq⟩ : ∃ q, ps[P]? = some q := ⟨_, List.getElem?_eq_getElem hPl⟩
        have HST := Lib.hid (HTK.out.trans (step_yes (x := (at_, r)) h1 hpg.symm hq))
        have HP := Lib.hid hPl
        have HQ := Lib.hid hq
        obtain ⟨q1, q2⟩ := q
        have BH : Hid (∀ W, Below w3.drew.heap.size w3.drew W → Calls Try.prog 22 #[.agg #[.int .i64 q1, .string q2], .agg #[.int .i64 at_, .int .i64 r.kind, .int .i64 r.txn, .int .i64 r.page, .int .i64 r.off, .int .i64 r.prev, .int .i64 r.next, .int .i64 r.beg, .string r.before, .string r.after, .slice ta r.txns.length tc, .slice pa r.pages.length pc]] W
            fun e w' => e = .returned (.agg #[.int .i64 (Hs.apP (q1, q2) at_ r).1, .string (Hs.apP (q1, q2) at_ r).2]) ∧ Below W.heap.size W w') := fun W hW =>
          rdBehind_any q1 q2 at_ r _ _ ((HL3.out.keep (w' := w3.drew) (Below.refl _ _).drew).keep hW) HZR.out
        have XC : Hid (∀ W, Below w3.drew.heap.size w3.drew W → (W.cell? ⟨g, P * 2, none⟩ = some (.int .i64 q1) ∧ W.cell? ⟨g, P * 2 + 1, none⟩ = some (.string q2)) ∧ Blk W y 39 #[.int .i64 at_, .int .i64 r.kind, .int .i64 r.txn, .int .i64 r.page, .int .i64 r.off, .int .i64 r.prev, .int .i64 r.next, .int .i64 r.beg, .string r.before, .string r.after, .slice ta r.txns.length tc, .slice pa r.pages.length pc] ∧ Blk W g 30 (pgV ps).toArray) := fun W hW => by
          have hg := HR3.out.drew.keep hW HR3.out.lt
          obtain ⟨e0, e1⟩ := pgV_of HQ.out
          exact ⟨⟨(hg.cell _).trans (by rw [List.getElem?_toArray]; exact e0), (hg.cell _).trans (by rw [List.getElem?_toArray]; exact e1)⟩, N3.drew.keep hW N3.lt, hg⟩
        have HPG := Lib.hid hpg
        have I1 := Lib.hid h3
        clear HL3 HR3 hpg hPl hq HTK
        go_upto_region 7 with fail
        clear N3 d0 d3 h1 h2 h3
        refine' wp_region_conf 9 (.is _ :: .is _ :: .is _ :: .is _ :: .is _ :: .is _ :: .is _ :: .is _ :: .is _ :: []) (by kernel_rfl) (by kernel_rfl) (by kernel_rfl) (by kernel_rfl) rfl ?main
        case main =>
          iterate 6 (
            apply obs_step
            · rfl
            · intro w9 hE9 hk9
              have f0 := (XC.out w9 hE9).1.1
              have f1 := (XC.out w9 hE9).1.2
              have i1 := I1.out
              clear hk9 hE9
              go_wp2
              refine post_eq ?_ (Below.refl _ _)
              simp only [Act.put, List.setIfInBounds_toArray, List.set_cons_zero, List.set_cons_succ]
              try rfl
            · simp only [Act.put, List.setIfInBounds_toArray, List.set_cons_zero, List.set_cons_succ]
              rfl)
          apply obs_step
          · rfl
          · intro w9 hE9 hk9
            have N9 := (XC.out w9 hE9).2.1
            clear hk9 hE9
            go_wp2_with (refine wpList_load_row rfl 39 _ rfl y rfl 39 _ (0, 0) _ N9 Try.underlying39 rfl (by kernel_rfl) ?_)
            refine post_eq ?_ (Below.refl _ _)
            simp only [Act.put, List.setIfInBounds_toArray, List.set_cons_zero, List.set_cons_succ]
            try rfl
          · simp only [Act.put, List.setIfInBounds_toArray, List.set_cons_zero, List.set_cons_succ]
            rfl
          apply obs_step
          · rfl
          · intro w9 hE9 hk9
            have AP9 := BH.out w9 hE9
            clear hk9 hE9
            go_wp2_with fail
            refine (AP9.mono ?_)
            rintro e w10 ⟨rfl, hb10⟩
            go_wp2
            refine post_eq ?_ hb10
            simp only [Act.put, List.setIfInBounds_toArray, List.set_cons_zero, List.set_cons_succ]
            try rfl
          · simp only [Act.put, List.setIfInBounds_toArray, List.set_cons_zero, List.set_cons_succ]
            rfl
          apply obs_step
          · rfl
          · intro w9 hE9 hk9
            have i1 := I1.out
            clear hk9 hE9
            go_wp2
            refine post_eq ?_ (Below.refl _ _)
            simp only [Act.put, List.setIfInBounds_toArray, List.set_cons_zero, List.set_cons_succ]
            try rfl
          · simp only [Act.put, List.setIfInBounds_toArray, List.set_cons_zero, List.set_cons_succ]
            rfl
          refine obs_end fun w9 hE9 _ => ?_
          have hB9 := HB3.out.drew.trans (hE9.mono HB3.out.size)
          obtain ⟨⟨f0, f1⟩, _, G9⟩ := XC.out w9 hE9
          have G10 := Lib.hid (G9.put2 HP.out (Hs.apP (q1, q2) at_ r))
          rw [← HST.out] at G10
          have HB10 := Lib.hid ((hB9.setCell (p := ⟨g, P * 2, none⟩) HGW.out (.int .i64 (Hs.apP (q1, q2) at_ r).1)).setCell (p := ⟨g, P * 2 + 1, none⟩) HGW.out (.string (Hs.apP (q1, q2) at_ r).2))
          have fz0 := G9.frozen (P * 2)
          have fz1 := G9.frozen (P * 2 + 1)
          clear hB9 hE9 XC BH HB3 G9 HST HQ
          generalize (Hs.apP (q1, q2) at_ r).1 = z1 at *
          generalize (Hs.apP (q1, q2) at_ r).2 = z2 at *
          go_wp2
          exact ⟨⟨k + 1, by go_num, HLT.out, HB10.out, G10.out⟩, by simp [intOf]; have := HLT.out; omega⟩
      · have HST := Lib.hid (HTK.out.trans (step_no (x := (at_, r)) (fun h => hin (by rw [HLEN.out, ← hpg] at h; exact h))))
        have HPG := Lib.hid hpg
        clear HL3 hpg HTK N3
        by_cases h1 : from_ ≤ at_
        · by_cases h2 : 0 ≤ pg
          · have h3 : ¬ pg < l.length := fun h3 => hin ⟨h1, h2, h3⟩
            clear hin
            go_wp2
            exact ⟨⟨k + 1, by go_num, HLT.out, HB3.out, by rw [HST.out]; exact HR3.out⟩, by simp [intOf]; have := HLT.out; omega⟩
          · clear hin
            go_wp2
            exact ⟨⟨k + 1, by go_num, HLT.out, HB3.out, by rw [HST.out]; exact HR3.out⟩, by simp [intOf]; have := HLT.out; omega⟩
        · clear hin
          go_wp2
          exact ⟨⟨k + 1, by go_num, HLT.out, HB3.out, by rw [HST.out]; exact HR3.out⟩, by simp [intOf]; have := HLT.out; omega⟩
    · obtain rfl : k = L.length := by omega
      rw [List.take_length] at HR
      go_wp2
      go_ret
      exact ⟨⟨_, rfl, HGW.out, HR.out⟩, HB.out⟩
end
end Go.Proofs.Ytkodnjefdophmaa
