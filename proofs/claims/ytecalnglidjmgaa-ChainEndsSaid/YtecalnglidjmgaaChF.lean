/- Package chain: find. -/
import Derived.Test.YtecalnglidjmgaaChE
namespace Go.Proofs.Ytecalnglidjmgaa
open Go.RowKit

theorem spot_some {l : List En} {p : Int} {i : Nat} (hs : SpotE l p i) (h : i < l.length) (hp : l[i].1 = p) : l.find? (fun x => x.1 == p) = some l[i] := by
  rw [List.find?_eq_some_iff_getElem]
  refine ⟨by simp [hp], i, h, rfl, fun j hj => ?_⟩
  have := hs.less j (by omega) hj
  simp
  omega
theorem spot_none {l : List En} {p : Int} {i : Nat} (hr : Ch.Rises l) (hs : SpotE l p i) (hp : ¬ ∃ h : i < l.length, l[i].1 = p) : l.find? (fun x => x.1 == p) = none := by
  rw [List.find?_eq_none]
  intro x hx
  obtain ⟨j, hj, rfl⟩ := List.getElem_of_mem hx
  simp
  intro e
  rcases Nat.lt_trichotomy j i with h | h | h
  · have := hs.less j hj h
    omega
  · subst h
    exact hp ⟨hj, e⟩
  · have h1 := hs.more i (by omega) (Nat.le_refl _)
    have h2 := rises_lt hr hj h
    omega
theorem bad_iff (t p : Int) (r : Rc) : Ch.Bad t p r ↔ ¬ (r.txn = t ∧ Leads p r) := by
  unfold Ch.Bad Leads
  omega

/-- What find tells. -/
def Found (w w' : World) (l : List En) (t p : Int) (e : Ending) : Prop := Below w.heap.size w w' ∧
  ((∃ r vt vp, Ch.at_ l t p = (r, 0) ∧ Lists w r vt vp ∧ e = .returned (.tuple #[entV p r vt vp, .int .i64 0])) ∨
   (∃ r n, n ≠ 0 ∧ Ch.at_ l t p = (r, n) ∧ e = .returned (.tuple #[entV 0 .nil (.slice none 0 0) (.slice none 0 0), .int .i64 n])))

set_option maxRecDepth 100000 in
set_option maxHeartbeats 8000000 in
theorem chFind {w : World} {v : Value} {l : List En} (hv : IsEnts w v l) (hr : Ch.Rises l) (hn : l.length ≤ 1000) (t p : Int) :
    Calls Try.prog 32 #[v, .int .i64 t, .int .i64 p] w fun e w' => Found w w' l t p e := by
  have HV := Lib.hid hv
  have HR := Lib.hid hr
  obtain ⟨a, cap, rfl, hl1, hl2, hx⟩ := hv
  clear hl2
  have HX := Lib.hid hx
  clear hx hr
  obtain ⟨Z, hZ⟩ : ∃ Z : Array Value, Z = entCells 0 .nil (.slice none 0 0) (.slice none 0 0) := ⟨_, rfl⟩
  have R0 := Blk.new w 47 Z
  have hB := (Below.refl w.heap.size w).alloc (Nat.le_refl _) (.cells Z 47)
  have hlt : w.heap.size < (w.alloc (.cells Z 47)).heap.size := by simp
  unfold Found entV
  go_enter Try.func32, Try.ntmps32
  go_upto_region 1 with fail
  change Code.wp _ _ _ _ (w.alloc (.cells (entCells 0 .nil (.slice none 0 0) (.slice none 0 0)) 47))
  rw [← hZ]
  generalize w.alloc (.cells Z 47) = w1 at *
  have HB := Lib.hid hB
  have C := Lib.hid (chSearch (HV.out.keep HB.out) HR.out hn p)
  have HZ := Lib.hid hZ
  clear hB hZ
  go_wp2_with fail
  refine C.out.mono ?_
  rintro e w2 ⟨hb2, i, yes, hsp, hyes, rfl⟩
  have R2 := R0.keep hb2 hlt
  have HB2 := Lib.hid (below2 HB.out hb2)
  have HSP := Lib.hid hsp
  have HYES := Lib.hid hyes
  have HLT := Lib.hid (Nat.lt_of_lt_of_le hlt hb2.size)
  clear C HB hlt hb2 hsp hyes R0
  cases yes with
  | false =>
    have hnone := spot_none HR.out HSP.out fun h => by have := HYES.out.2 h; cases this
    have hat : Ch.at_ l t p = (Rc.nil, 7) := by unfold Ch.at_; rw [hnone]
    have HAT := Lib.hid hat
    clear hat hnone
    have RR := R2
    clear R2
    go_wp2_with (refine wpList_store_row rfl 47 _ _ rfl w.heap.size _ rfl rfl 47 _ RR (by kernel_rfl) (by rw [HZ.out]; rfl) (by simp [Value.oneCell']) ?_)
    exact bodyPost_ret (results_row_tmp rfl _ _ w.heap.size 47 _ _ rfl (RR.setRow _) Try.underlying47 rfl (by kernel_rfl)) rfl ⟨below_setRow HB2.out (Nat.le_refl _) _, .inr ⟨_, 7, by decide, HAT.out, rfl⟩⟩
  | true =>
    obtain ⟨hi, hpi⟩ := HYES.out.1 rfl
    have hsome := spot_some HSP.out hi hpi
    obtain ⟨b, off, vt, vp, rfl, lt1, la, ci⟩ := HX.out.whole i hi
    rw [hpi] at ci
    obtain ⟨r, hr⟩ : ∃ r, r = l[i].2 := ⟨_, rfl⟩
    rw [← hr] at ci la
    have cc : ∀ k x, (entCells p r vt vp)[k]? = some x → w2.cell? ⟨b, off + i * 12 + k, none⟩ = some x := fun k x h => (HB2.out.cell (p := ⟨b, off + i * 12 + k, none⟩) lt1).trans (ci k x h)
    have hat : Ch.at_ l t p = if Ch.Bad t p r then (r, 1) else (r, 0) := by unfold Ch.at_; rw [hsome]; simp only [← hr]
    have HAT := Lib.hid hat
    have HLA := Lib.hid la
    have C := chLeads p r vt vp la.t.sl la.p.sl w2
    obtain ⟨ta, tc, e1⟩ := la.t.form
    obtain ⟨pa, pc, e2⟩ := la.p.form
    subst e1 e2
    have c0 : w2.cell? ⟨b, off + i * 12, none⟩ = _ := cc 0 _ rfl
    have c1 : w2.cell? ⟨b, off + i * 12 + 1, none⟩ = _ := cc 1 _ rfl
    have c2 : w2.cell? ⟨b, off + i * 12 + 2, none⟩ = _ := cc 2 _ rfl
    have c3 : w2.cell? ⟨b, off + i * 12 + 3, none⟩ = _ := cc 3 _ rfl
    have c4 : w2.cell? ⟨b, off + i * 12 + 4, none⟩ = _ := cc 4 _ rfl
    have c5 : w2.cell? ⟨b, off + i * 12 + 5, none⟩ = _ := cc 5 _ rfl
    have c6 : w2.cell? ⟨b, off + i * 12 + 6, none⟩ = _ := cc 6 _ rfl
    have c7 : w2.cell? ⟨b, off + i * 12 + 7, none⟩ = _ := cc 7 _ rfl
    have c8 : w2.cell? ⟨b, off + i * 12 + 8, none⟩ = _ := cc 8 _ rfl
    have c9 : w2.cell? ⟨b, off + i * 12 + 9, none⟩ = _ := cc 9 _ rfl
    have c10 : w2.cell? ⟨b, off + i * 12 + 10, none⟩ = _ := cc 10 _ rfl
    have c11 : w2.cell? ⟨b, off + i * 12 + 11, none⟩ = _ := cc 11 _ rfl
    simp only [entCells, List.getElem_toArray, List.getElem_cons_zero, List.getElem_cons_succ] at c0 c1 c2 c3 c4 c5 c6 c7 c8 c9 c10 c11
    clear la hsome hat hr hpi cc ci
    unfold entV entCells at C
    have CC := Lib.hid C
    clear C
    have RR := R2
    clear R2
    by_cases ht : r.txn = t
    · by_cases hld : Leads p r
      · have hnb : ¬ Ch.Bad t p r := fun h => (bad_iff t p r).1 h ⟨ht, hld⟩
        have HA2 := Lib.hid (HAT.out.trans (if_neg hnb))
        have eld : decide (Leads p r) = true := decide_eq_true hld
        rw [eld, ht] at CC
        clear hnb HAT hld eld
        have HTT := Lib.hid ht
        have htt : (t != t) = false := by simp
        rw [ht] at c2
        clear ht
        go_wp2_with fail
        refine CC.out.mono ?_
        rintro e w3 ⟨rfl, hb3⟩
        have R3 := RR.keep hb3 HLT.out
        have HB3 := Lib.hid (below2 HB2.out hb3)
        have lt2 : b < w2.heap.size := Nat.lt_of_lt_of_le lt1 HB2.out.size
        replace c0 := (hb3.cell (p := ⟨b, off + i * 12, none⟩) lt2).trans c0
        replace c1 := (hb3.cell (p := ⟨b, off + i * 12 + 1, none⟩) lt2).trans c1
        replace c2 := (hb3.cell (p := ⟨b, off + i * 12 + 2, none⟩) lt2).trans c2
        replace c3 := (hb3.cell (p := ⟨b, off + i * 12 + 3, none⟩) lt2).trans c3
        replace c4 := (hb3.cell (p := ⟨b, off + i * 12 + 4, none⟩) lt2).trans c4
        replace c5 := (hb3.cell (p := ⟨b, off + i * 12 + 5, none⟩) lt2).trans c5
        replace c6 := (hb3.cell (p := ⟨b, off + i * 12 + 6, none⟩) lt2).trans c6
        replace c7 := (hb3.cell (p := ⟨b, off + i * 12 + 7, none⟩) lt2).trans c7
        replace c8 := (hb3.cell (p := ⟨b, off + i * 12 + 8, none⟩) lt2).trans c8
        replace c9 := (hb3.cell (p := ⟨b, off + i * 12 + 9, none⟩) lt2).trans c9
        replace c10 := (hb3.cell (p := ⟨b, off + i * 12 + 10, none⟩) lt2).trans c10
        replace c11 := (hb3.cell (p := ⟨b, off + i * 12 + 11, none⟩) lt2).trans c11
        clear hb3 RR CC HB2
        go_wp2_with (refine wpList_store_row rfl 47 _ _ rfl w.heap.size _ rfl rfl 47 _ R3 (by kernel_rfl) (by rw [HZ.out]; rfl) (by simp [Value.oneCell']) ?_)
        exact bodyPost_ret (results_row_tmp rfl _ _ w.heap.size 47 _ _ rfl (R3.setRow _) Try.underlying47 rfl (by kernel_rfl)) rfl ⟨below_setRow HB3.out (Nat.le_refl _) _, .inl ⟨r, _, _, HA2.out, HLA.out, by unfold entCells; rw [HTT.out]; rfl⟩⟩
      · have hnb : Ch.Bad t p r := (bad_iff t p r).2 fun h => hld h.2
        have HA2 := Lib.hid (HAT.out.trans (if_pos hnb))
        have eld : decide (Leads p r) = false := decide_eq_false hld
        rw [eld, ht] at CC
        clear hnb HAT hld eld
        have htt : (t != t) = false := by simp
        rw [ht] at c2
        clear ht
        go_wp2_with fail
        refine CC.out.mono ?_
        rintro e w3 ⟨rfl, hb3⟩
        have R3 := RR.keep hb3 HLT.out
        have HB3 := Lib.hid (below2 HB2.out hb3)
        clear hb3 RR CC HB2
        go_wp2_with (refine wpList_store_row rfl 47 _ _ rfl w.heap.size _ rfl rfl 47 _ R3 (by kernel_rfl) (by rw [HZ.out]; rfl) (by simp [Value.oneCell']) ?_)
        exact bodyPost_ret (results_row_tmp rfl _ _ w.heap.size 47 _ _ rfl (R3.setRow _) Try.underlying47 rfl (by kernel_rfl)) rfl ⟨below_setRow HB3.out (Nat.le_refl _) _, .inr ⟨r, 1, by decide, HA2.out, rfl⟩⟩
    · have hnb : Ch.Bad t p r := (bad_iff t p r).2 fun h => ht h.1
      have HA2 := Lib.hid (HAT.out.trans (if_pos hnb))
      have htt : (r.txn != t) = true := by simp [ht]
      have HB3 := HB2
      have R3 := RR
      clear hnb HAT ht CC HB2 RR
      go_wp2_with (refine wpList_store_row rfl 47 _ _ rfl w.heap.size _ rfl rfl 47 _ R3 (by kernel_rfl) (by rw [HZ.out]; rfl) (by simp [Value.oneCell']) ?_)
      exact bodyPost_ret (results_row_tmp rfl _ _ w.heap.size 47 _ _ rfl (R3.setRow _) Try.underlying47 rfl (by kernel_rfl)) rfl ⟨below_setRow HB3.out (Nat.le_refl _) _, .inr ⟨r, 1, by decide, HA2.out, rfl⟩⟩
end Go.Proofs.Ytecalnglidjmgaa
