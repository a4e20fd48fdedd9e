/- careenref11: at. -/
import Derived.Test.YtecalnglidjmgaaChN
namespace Go.Proofs.Ytecalnglidjmgaa
open Go.RowKit

set_option maxRecDepth 100000 in
set_option maxHeartbeats 16000000 in
theorem refAt {w : World} {v : Value} {l : List En} (hv : IsEnts w v l) (t p : Int) :
    Calls Try.prog 25 #[v, .int .i64 t, .int .i64 p] w fun e w' => Below w.heap.size w w' ∧ ∃ vt vp, Lists w (Ch.at_ l t p).1 vt vp ∧ e = .returned (.tuple #[recV (Ch.at_ l t p).1 vt vp, .int .i64 (Ch.at_ l t p).2]) := by
  obtain ⟨a, cap, rfl, hl1, hl2, hx⟩ := hv
  unfold maxLen at hl2
  have HX := Lib.hid hx
  clear hx
  obtain ⟨Z, hZ⟩ : ∃ Z : Array Value, Z = recCells .nil (.slice none 0 0) (.slice none 0 0) := ⟨_, rfl⟩
  have R0 := Blk.new w 45 Z
  have hB := (Below.refl w.heap.size w).alloc (Nat.le_refl _) (.cells Z 45)
  obtain ⟨U, hU⟩ : ∃ U, U = Ch.at_ l t p := ⟨_, rfl⟩
  rw [← hU]
  have HU := Lib.hid hU
  clear hU
  unfold recV
  go_enter Try.func25, Try.ntmps25
  go_upto_region 1 with fail
  change Code.wp _ _ _ _ (w.alloc (.cells (recCells .nil (.slice none 0 0) (.slice none 0 0)) 45))
  rw [← hZ]
  generalize w.alloc (.cells Z 45) = w1 at *
  have HZ := Lib.hid hZ
  have RR0 := Lib.hid R0
  have HB0 := Lib.hid hB
  clear hZ R0 hB
  go_wp2_with fail
  go_loopw [8] (fun vk wr => ∃ k : Nat, vk = .int .i64 k ∧ k ≤ l.length ∧ (∀ j (h : j < l.length), j < k → l[j].1 ≠ p) ∧ Below w.heap.size w wr ∧ Blk wr w.heap.size 45 Z) (fun vk _ => l.length - (intOf vk).toNat)
  case atStart => exact ⟨0, rfl, Nat.zero_le _, fun j _ h => by omega, HB0.out, RR0.out⟩
  case round =>
    obtain ⟨k, rfl, hk, hno, hB, hR⟩ := hrel
    have HNO := Lib.hid hno
    have HB := Lib.hid hB
    have HR := Lib.hid hR
    clear hno hB hR
    by_cases hlt : k < l.length
    · obtain ⟨b, off, vt, vp, rfl, lt1, la, ci⟩ := HX.out.whole k hlt
      obtain ⟨x, hxx⟩ : ∃ x, x = l[k].1 := ⟨_, rfl⟩
      obtain ⟨r, hrr⟩ : ∃ r, r = l[k].2 := ⟨_, rfl⟩
      rw [← hxx, ← hrr] at ci
      rw [← hrr] at la
      have cat : wr.cell? ⟨b, off + k * 12, none⟩ = some (.int .i64 x) := (HB.out.cell (p := ⟨b, off + k * 12, none⟩) lt1).trans (ci 0 _ rfl)
      have HXX := Lib.hid hxx
      have HRX := Lib.hid hrr
      have HLA := Lib.hid la
      obtain ⟨ta, tc, e1⟩ := la.t.form
      obtain ⟨pa, pc, e2⟩ := la.p.form
      subst e1 e2
      have c0 : wr.cell? ⟨b, off + k * 12 + 1, none⟩ = some (.int .i64 r.kind) := (HB.out.cell (p := ⟨b, off + k * 12 + 1, none⟩) lt1).trans (by rw [show off + k * 12 + 1 = off + k * 12 + 1 by omega]; exact ci 1 _ rfl)
      have c1 : wr.cell? ⟨b, off + k * 12 + 1 + 1, none⟩ = some (.int .i64 r.txn) := (HB.out.cell (p := ⟨b, off + k * 12 + 1 + 1, none⟩) lt1).trans (by rw [show off + k * 12 + 1 + 1 = off + k * 12 + 2 by omega]; exact ci 2 _ rfl)
      have c2 : wr.cell? ⟨b, off + k * 12 + 1 + 2, none⟩ = some (.int .i64 r.page) := (HB.out.cell (p := ⟨b, off + k * 12 + 1 + 2, none⟩) lt1).trans (by rw [show off + k * 12 + 1 + 2 = off + k * 12 + 3 by omega]; exact ci 3 _ rfl)
      have c3 : wr.cell? ⟨b, off + k * 12 + 1 + 3, none⟩ = some (.int .i64 r.off) := (HB.out.cell (p := ⟨b, off + k * 12 + 1 + 3, none⟩) lt1).trans (by rw [show off + k * 12 + 1 + 3 = off + k * 12 + 4 by omega]; exact ci 4 _ rfl)
      have c4 : wr.cell? ⟨b, off + k * 12 + 1 + 4, none⟩ = some (.int .i64 r.prev) := (HB.out.cell (p := ⟨b, off + k * 12 + 1 + 4, none⟩) lt1).trans (by rw [show off + k * 12 + 1 + 4 = off + k * 12 + 5 by omega]; exact ci 5 _ rfl)
      have c5 : wr.cell? ⟨b, off + k * 12 + 1 + 5, none⟩ = some (.int .i64 r.next) := (HB.out.cell (p := ⟨b, off + k * 12 + 1 + 5, none⟩) lt1).trans (by rw [show off + k * 12 + 1 + 5 = off + k * 12 + 6 by omega]; exact ci 6 _ rfl)
      have c6 : wr.cell? ⟨b, off + k * 12 + 1 + 6, none⟩ = some (.int .i64 r.beg) := (HB.out.cell (p := ⟨b, off + k * 12 + 1 + 6, none⟩) lt1).trans (by rw [show off + k * 12 + 1 + 6 = off + k * 12 + 7 by omega]; exact ci 7 _ rfl)
      have c7 : wr.cell? ⟨b, off + k * 12 + 1 + 7, none⟩ = some (.string r.before) := (HB.out.cell (p := ⟨b, off + k * 12 + 1 + 7, none⟩) lt1).trans (by rw [show off + k * 12 + 1 + 7 = off + k * 12 + 8 by omega]; exact ci 8 _ rfl)
      have c8 : wr.cell? ⟨b, off + k * 12 + 1 + 8, none⟩ = some (.string r.after) := (HB.out.cell (p := ⟨b, off + k * 12 + 1 + 8, none⟩) lt1).trans (by rw [show off + k * 12 + 1 + 8 = off + k * 12 + 9 by omega]; exact ci 9 _ rfl)
      have c9 : wr.cell? ⟨b, off + k * 12 + 1 + 9, none⟩ = some (.slice ta r.txns.length tc) := (HB.out.cell (p := ⟨b, off + k * 12 + 1 + 9, none⟩) lt1).trans (by rw [show off + k * 12 + 1 + 9 = off + k * 12 + 10 by omega]; exact ci 10 _ rfl)
      have c10 : wr.cell? ⟨b, off + k * 12 + 1 + 10, none⟩ = some (.slice pa r.pages.length pc) := (HB.out.cell (p := ⟨b, off + k * 12 + 1 + 10, none⟩) lt1).trans (by rw [show off + k * 12 + 1 + 10 = off + k * 12 + 11 by omega]; exact ci 11 _ rfl)
      clear ci la hxx hrr
      by_cases hp : x = p
      · have hfind : l.find? (fun x => x.1 == p) = some l[k] := by
          rw [List.find?_eq_some_iff_getElem]
          refine ⟨by rw [← HXX.out]; simp [hp], k, hlt, rfl, fun j hj => ?_⟩
          have := HNO.out j (by omega) hj
          simp [this]
        have hat : U = if Ch.Bad t p r then (r, 1) else (r, 0) := by rw [HU.out]; unfold Ch.at_; rw [hfind]; simp only [← HRX.out]
        have HAT := Lib.hid hat
        have hxp : (x == p) = true := by simp [hp]
        subst hp
        clear hfind hat HXX HRX HNO
        go_upto_region 6 with fail
        obtain ⟨X, hX⟩ : ∃ X : Array Value, X = #[.int .i64 r.kind, .int .i64 r.txn, .int .i64 r.page, .int .i64 r.off, .int .i64 r.prev, .int .i64 r.next, .int .i64 r.beg, .string r.before, .string r.after, .slice ta r.txns.length tc, .slice pa r.pages.length pc] := ⟨_, rfl⟩
        rw [← hX]
        have xb := Blk.new wr 45 X
        have bx : Below w.heap.size w (wr.alloc (.cells X 45)) := HB.out.alloc HB.out.size _
        have rx := HR.out.alloc (.cells X 45)
        generalize hwx : wr.alloc (.cells X 45) = wx at *
        rw [hX] at xb
        have d0 := xb.cell 0
        have d1 := xb.cell 1
        have d2 := xb.cell 2
        have d3 := xb.cell 3
        have d4 := xb.cell 4
        have d5 := xb.cell 5
        have d6 := xb.cell 6
        have d7 := xb.cell 7
        have d8 := xb.cell 8
        have d9 := xb.cell 9
        have d10 := xb.cell 10
        simp only [List.getElem?_toArray, List.getElem?_cons_zero, List.getElem?_cons_succ] at d0 d1 d2 d3 d4 d5 d6 d7 d8 d9 d10
        have BX := Lib.hid bx
        have RR := rx
        rw [hX]
        clear hX xb rx bx hwx c0 c1 c2 c3 c4 c5 c6 c7 c8 c9 c10 cat HB HR
        by_cases k1 : r.kind = 1
        · have b1 : (r.kind != 1) = false := by simp [k1]
          have b2 : (r.kind == 2) = false := by simp [k1]
          by_cases tx : r.txn = t
          · have b3 : (r.txn != t) = false := by simp [tx]
            by_cases pv : x ≤ r.prev
            · have b4 : decide (x ≤ r.prev) = true := decide_eq_true pv
              have hat : U = (r, 1) := by
                have h := HAT.out
                rw [if_pos (by unfold Ch.Bad; omega)] at h
                exact h
              subst hat
              clear HU HAT
              clear k1 tx pv
              go_upto_region 7 with fail
              go_wp2_with (refine wpList_store_row rfl 45 _ _ rfl w.heap.size _ rfl rfl 45 _ RR (by kernel_rfl) (by rw [HZ.out]; rfl) (by simp [Value.oneCell']) ?_)
              exact bodyPost_ret (results_row_tmp rfl _ _ w.heap.size 45 _ _ rfl (RR.setRow _) Try.underlying45 rfl (by kernel_rfl)) rfl ⟨below_setRow BX.out (Nat.le_refl _) _, _, _, HLA.out, rfl⟩
            · have b4 : decide (x ≤ r.prev) = false := decide_eq_false pv
              have hat : U = (r, 0) := by
                have h := HAT.out
                rw [if_neg (by unfold Ch.Bad; omega)] at h
                exact h
              subst hat
              clear HU HAT
              clear k1 tx pv
              go_upto_region 8 with fail
              go_wp2_with (refine wpList_store_row rfl 45 _ _ rfl w.heap.size _ rfl rfl 45 _ RR (by kernel_rfl) (by rw [HZ.out]; rfl) (by simp [Value.oneCell']) ?_)
              exact bodyPost_ret (results_row_tmp rfl _ _ w.heap.size 45 _ _ rfl (RR.setRow _) Try.underlying45 rfl (by kernel_rfl)) rfl ⟨below_setRow BX.out (Nat.le_refl _) _, _, _, HLA.out, rfl⟩
          · have b3 : (r.txn != t) = true := by simp [tx]
            have hat : U = (r, 1) := by
              have h := HAT.out
              rw [if_pos (by unfold Ch.Bad; omega)] at h
              exact h
            subst hat
            clear HU HAT
            clear k1 tx
            go_upto_region 7 with fail
            go_wp2_with (refine wpList_store_row rfl 45 _ _ rfl w.heap.size _ rfl rfl 45 _ RR (by kernel_rfl) (by rw [HZ.out]; rfl) (by simp [Value.oneCell']) ?_)
            exact bodyPost_ret (results_row_tmp rfl _ _ w.heap.size 45 _ _ rfl (RR.setRow _) Try.underlying45 rfl (by kernel_rfl)) rfl ⟨below_setRow BX.out (Nat.le_refl _) _, _, _, HLA.out, rfl⟩
        · have b1 : (r.kind != 1) = true := by simp [k1]
          by_cases k2 : r.kind = 2
          · have b2 : (r.kind != 2) = false := by simp [k2]
            have b2' : (r.kind == 2) = true := by simp [k2]
            by_cases tx : r.txn = t
            · have b3 : (r.txn != t) = false := by simp [tx]
              by_cases pv : x ≤ r.prev
              · have b4 : decide (x ≤ r.prev) = true := decide_eq_true pv
                have hat : U = (r, 1) := by
                  have h := HAT.out
                  rw [if_pos (by unfold Ch.Bad; omega)] at h
                  exact h
                subst hat
                clear HU HAT
                clear k1 k2 tx pv
                go_upto_region 7 with fail
                go_wp2_with (refine wpList_store_row rfl 45 _ _ rfl w.heap.size _ rfl rfl 45 _ RR (by kernel_rfl) (by rw [HZ.out]; rfl) (by simp [Value.oneCell']) ?_)
                exact bodyPost_ret (results_row_tmp rfl _ _ w.heap.size 45 _ _ rfl (RR.setRow _) Try.underlying45 rfl (by kernel_rfl)) rfl ⟨below_setRow BX.out (Nat.le_refl _) _, _, _, HLA.out, rfl⟩
              · have b4 : decide (x ≤ r.prev) = false := decide_eq_false pv
                by_cases nx : x ≤ r.next
                · have b5 : decide (x ≤ r.next) = true := decide_eq_true nx
                  have hat : U = (r, 1) := by
                    have h := HAT.out
                    rw [if_pos (by unfold Ch.Bad; omega)] at h
                    exact h
                  subst hat
                  clear HU HAT
                  clear k1 k2 tx pv nx
                  go_upto_region 7 with fail
                  go_wp2_with (refine wpList_store_row rfl 45 _ _ rfl w.heap.size _ rfl rfl 45 _ RR (by kernel_rfl) (by rw [HZ.out]; rfl) (by simp [Value.oneCell']) ?_)
                  exact bodyPost_ret (results_row_tmp rfl _ _ w.heap.size 45 _ _ rfl (RR.setRow _) Try.underlying45 rfl (by kernel_rfl)) rfl ⟨below_setRow BX.out (Nat.le_refl _) _, _, _, HLA.out, rfl⟩
                · have b5 : decide (x ≤ r.next) = false := decide_eq_false nx
                  have hat : U = (r, 0) := by
                    have h := HAT.out
                    rw [if_neg (by unfold Ch.Bad; omega)] at h
                    exact h
                  subst hat
                  clear HU HAT
                  clear k1 k2 tx pv nx
                  go_upto_region 8 with fail
                  go_wp2_with (refine wpList_store_row rfl 45 _ _ rfl w.heap.size _ rfl rfl 45 _ RR (by kernel_rfl) (by rw [HZ.out]; rfl) (by simp [Value.oneCell']) ?_)
                  exact bodyPost_ret (results_row_tmp rfl _ _ w.heap.size 45 _ _ rfl (RR.setRow _) Try.underlying45 rfl (by kernel_rfl)) rfl ⟨below_setRow BX.out (Nat.le_refl _) _, _, _, HLA.out, rfl⟩
            · have b3 : (r.txn != t) = true := by simp [tx]
              have hat : U = (r, 1) := by
                have h := HAT.out
                rw [if_pos (by unfold Ch.Bad; omega)] at h
                exact h
              subst hat
              clear HU HAT
              clear k1 k2 tx
              go_upto_region 7 with fail
              go_wp2_with (refine wpList_store_row rfl 45 _ _ rfl w.heap.size _ rfl rfl 45 _ RR (by kernel_rfl) (by rw [HZ.out]; rfl) (by simp [Value.oneCell']) ?_)
              exact bodyPost_ret (results_row_tmp rfl _ _ w.heap.size 45 _ _ rfl (RR.setRow _) Try.underlying45 rfl (by kernel_rfl)) rfl ⟨below_setRow BX.out (Nat.le_refl _) _, _, _, HLA.out, rfl⟩
          · have b2 : (r.kind != 2) = true := by simp [k2]
            have hat : U = (r, 1) := by
              have h := HAT.out
              rw [if_pos (by unfold Ch.Bad; omega)] at h
              exact h
            subst hat
            clear HU HAT
            clear k1 k2
            go_upto_region 7 with fail
            go_wp2_with (refine wpList_store_row rfl 45 _ _ rfl w.heap.size _ rfl rfl 45 _ RR (by kernel_rfl) (by rw [HZ.out]; rfl) (by simp [Value.oneCell']) ?_)
            exact bodyPost_ret (results_row_tmp rfl _ _ w.heap.size 45 _ _ rfl (RR.setRow _) Try.underlying45 rfl (by kernel_rfl)) rfl ⟨below_setRow BX.out (Nat.le_refl _) _, _, _, HLA.out, rfl⟩
      · have hxp : (x == p) = false := by simp [hp]
        clear c0 c1 c2 c3 c4 c5 c6 c7 c8 c9 c10
        go_wp2
        refine ⟨⟨k + 1, by simp, hlt, fun j h hj => ?_, HB.out, HR.out⟩, by simp [intOf]; omega⟩
        rcases Nat.lt_or_ge j k with hjk | hjk
        · exact HNO.out j h hjk
        · obtain rfl : j = k := by omega
          rw [← HXX.out]; exact hp
    · have hnone : l.find? (fun x => x.1 == p) = none := by
        rw [List.find?_eq_none]
        intro y hy
        obtain ⟨j, hj, rfl⟩ := List.getElem_of_mem hy
        simpa using HNO.out j hj (by omega)
      have hat : U = (Rc.nil, 7) := by rw [HU.out]; unfold Ch.at_; rw [hnone]
      have RR := HR.out
      subst hat
      clear hnone
      go_wp2_with (refine wpList_store_row rfl 45 _ _ rfl w.heap.size _ rfl rfl 45 _ RR (by kernel_rfl) (by rw [HZ.out]; rfl) (by simp [Value.oneCell']) ?_)
      exact bodyPost_ret (results_row_tmp rfl _ _ w.heap.size 45 _ _ rfl (RR.setRow _) Try.underlying45 rfl (by kernel_rfl)) rfl ⟨below_setRow HB.out (Nat.le_refl _) _, _, _, Lists.nil _ _ rfl rfl, rfl⟩
end Go.Proofs.Ytecalnglidjmgaa
