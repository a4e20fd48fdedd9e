/- The walk of ChainCounts. -/
import Derived.Test.YtecalnglidjmgaaChO
import Derived.Test.YtecalnglidjmgaaOpenEnts
namespace Go.Proofs.Ytecalnglidjmgaa
open Go.RowKit

theorem fit_small {l : List En} (h : FewL l) : ∀ x ∈ l, x.2.before.size ≤ 300 := fun x hx => (h.2 x hx).before
theorem und_rows (l : List En) (t p s : Int) : ∀ r ∈ (Ch.undo l t p s).1, r.txns = [] ∧ r.pages = [] := fun r hr => by
  by_cases h : (Ch.undo l t p s).2 = 0
  · rw [(Ch.undo_ok h).2.2] at hr
    obtain ⟨x, _, rfl⟩ := List.mem_map.1 hr
    exact ⟨rfl, rfl⟩
  · rw [Ch.undo_bad h] at hr
    cases hr

set_option maxRecDepth 100000 in
set_option maxHeartbeats 16000000 in
theorem walkChainCounts (v : Value) (l : List Ent) (last : Int) (w : World) (hv : IsEnts w v l ∧ ∀ x ∈ l, Sized x.2) (_ : (Lit.int .i64 last).wf = true) :
    Calls Try.prog 7 #[v, .int .i64 last] w fun e w' => e = .returned (.bool true) ∧ Below w.heap.size w w' := by
  obtain ⟨hv, hz⟩ := hv
  have HV := Lib.hid hv
  obtain ⟨va, vc, rfl, _⟩ := hv
  have AW := Lib.hid (awake11 w)
  by_cases hf : FewL l
  · have HF := Lib.hid hf
    have hn : l.length ≤ 200 := hf.1
    have FW := Lib.hid (fun (W : World) (h : IsEnts W (.slice va l.length vc) l) => refFew h hz true ⟨fun _ => hf, fun _ => rfl⟩)
    clear hz hf
    go_enter Try.func7, Try.ntmps7
    go_wp2_with fail
    refine AW.out.mono ?_
    rintro e w1 ⟨rfl, hb⟩
    have H1 := Lib.hid (HV.out.keep hb)
    have HB1 := Lib.hid hb
    clear hb AW
    go_wp2_with fail
    refine (FW.out _ H1.out).mono ?_
    rintro e w2 ⟨rfl, hb⟩
    have H2 := Lib.hid (H1.out.keep hb)
    have HB2 := Lib.hid (below2 HB1.out hb)
    clear hb FW H1 HB1
    go_wp2_with fail
    refine (chLeft H2.out (by omega) 1 last).mono ?_
    rintro e w3 ⟨rfl, hb⟩
    have H3 := Lib.hid (H2.out.keep hb)
    have HB3 := Lib.hid (below2 HB2.out hb)
    clear hb H2 HB2
    have CNT := Lib.hid (fun h1 h2 => Ch.counts (l := l) (t := 1) (p := last) (s := 0) h1 h2)
    obtain ⟨N, hN⟩ : ∃ N, N = (Ch.stand l 1 last).1.length := ⟨_, rfl⟩
    obtain ⟨E1, hE1⟩ : ∃ E1, E1 = (Ch.stand l 1 last).2 := ⟨_, rfl⟩
    rw [← hN, ← hE1] at CNT ⊢
    clear hN hE1
    go_wp2_with fail
    refine (chUndoAll H3.out (by omega) (fit_small HF.out) 1 last 0).mono ?_
    rintro e w4 ⟨u, B, rfl, hB, hu, hb⟩
    obtain ⟨M, hM⟩ : ∃ M, M = (Ch.undo l 1 last 0).1.length := ⟨_, rfl⟩
    obtain ⟨E2, hE2⟩ : ∃ E2, E2 = (Ch.undo l 1 last 0).2 := ⟨_, rfl⟩
    rw [← hM, ← hE2] at CNT
    rw [← hM] at hu
    rw [← hE2]
    obtain ⟨ua, uc, rfl⟩ := (Elems.ofOwn hu).form
    have H4 := Lib.hid (H3.out.keep hb)
    have HB4 := Lib.hid (below2 HB3.out hb)
    clear hb H3 HB3 hM hE2 hu hB
    go_wp2_with fail
    refine (chChain H4.out (by omega) 1 last).mono ?_
    rintro e w5 ⟨c, B', rfl, hB, hc, hb⟩
    have FA := Lib.hid (Ch.chain_falls l 1 last)
    have CB := Lib.hid (Ch.chain_bad (l := l) (t := 1) (p := last))
    generalize hC : (Ch.chain l 1 last).1 = C at *
    generalize hE3 : (Ch.chain l 1 last).2 = E3 at *
    have e5 : Elems w5 c C.length (placesV C) := Elems.ofOwn hc
    have E5 := Lib.hid e5
    obtain ⟨ca, cc, rfl⟩ := e5.form
    have HB5 := Lib.hid (below2 HB4.out hb)
    have hCl := Elems.le e5
    unfold maxLen at hCl
    clear hb HB4 hC hE3 hc hB e5 H4
    have hcond : ((E1 : Int) == 0) = false ∨ (((E1 : Int) == 0) = true ∧ ((E2 : Int) == 0) = false) ∨ (((E1 : Int) == 0) = true ∧ ((E2 : Int) == 0) = true ∧ M ≤ N) := by
      by_cases h1 : E1 = 0
      · by_cases h2 : E2 = 0
        · exact .inr (.inr ⟨by simp [h1], by simp [h2], CNT.out h1 h2⟩)
        · exact .inr (.inl ⟨by simp [h1], by simp; omega⟩)
      · exact .inl (by simp; omega)
    clear CNT
    rcases hcond with h1 | ⟨h1, h2⟩ | ⟨h1, h2, h3⟩
    rotate_left 2
    by_cases h0 : 0 ≤ last
    all_goals
      go_wp2_with fail
      go_loopw [56, 11] (fun vk _ wr => ∃ k : Nat, vk = .int .i64 k ∧ k ≤ C.length ∧ Below w5.heap.size w5 wr) (fun vk _ _ => C.length - (intOf vk).toNat)
      case atStart => exact ⟨0, rfl, Nat.zero_le _, Below.refl _ _⟩
      case round =>
        obtain ⟨k, rfl, hk, hB⟩ := hrel
        have HB := Lib.hid hB
        clear hB
        by_cases hlt : k < C.length
        · have hne : placesV C ≠ [] := fun e => by have := congrArg List.length e; simp [placesV] at this; subst this; simp at hlt
          obtain ⟨b1, o1, c1', e1, hc1, _, lt1, da1⟩ := Elems.cases (Elems.keep E5.out HB.out) hne
          simp only [Value.slice.injEq, true_and] at e1
          obtain ⟨rfl, rfl⟩ := e1
          have hv : (placesV C)[k]? = some (.int .i64 C[k]) := by simp [placesV, hlt]
          have d1 := da1 k _ hv
          rcases Nat.eq_zero_or_pos k with rfl | hpos
          · clear da1 hv hne
            generalize C[0] = y at *
            go_wp2_with (go_quiet (fail))
            exact ⟨⟨1, by simp, hlt, HB.out.trans (belowN (Below.refl _ _) _)⟩, by simp [intOf]; omega⟩
          · obtain ⟨m, rfl⟩ : ∃ m, k = m + 1 := ⟨k - 1, by omega⟩
            have hm : m < C.length := by omega
            have hv2 : (placesV C)[m]? = some (.int .i64 C[m]) := by simp [placesV, hm]
            have d2 := da1 m _ hv2
            have hfall : C[m + 1] < C[m] := List.pairwise_iff_getElem.1 FA.out m (m + 1) hm hlt (by omega)
            clear da1 hv hv2 hne
            generalize C[m + 1] = y at *
            generalize C[m] = x at *
            have hno : decide (x ≤ y) = false := by rw [decide_eq_false_iff_not]; omega
            have hk1 : (m : Int) + 1 - 1 = m := by omega
            have hp1 : decide ((0 : Int) < (m : Int) + 1) = true := by rw [decide_eq_true_eq]; omega
            rw [show ((m + 1 : Nat) : Int) = (m : Int) + 1 from rfl]
            go_wp2_with (go_quiet (fail))
            exact ⟨⟨m + 1 + 1, by simp, hlt, HB.out.trans (belowN (Below.refl _ _) _)⟩, by simp [intOf]; omega⟩
        · obtain rfl : k = C.length := by omega
          by_cases h3 : E3 = 0
          · have hb3 : ((E3 : Int) == 0) = true := by simp [h3]
            clear hlt hk
            go_wp2
            go_ret
            exact ⟨rfl, HB5.out.trans (HB.out.mono HB5.out.size)⟩
          · have hb3 : ((E3 : Int) == 0) = false := by simp; omega
            have hC0 : C = [] := CB.out h3
            have hl0 : ((C.length : Int) == 0) = true := by rw [hC0]; rfl
            clear hlt hk h3 hC0
            go_wp2
            go_ret
            exact ⟨rfl, HB5.out.trans (HB.out.mono HB5.out.size)⟩
  · have FW := Lib.hid (fun (W : World) (h : IsEnts W (.slice va l.length vc) l) => refFew h hz false ⟨fun h => by simp at h, fun h => absurd h hf⟩)
    clear hz hf
    go_enter Try.func7, Try.ntmps7
    go_wp2_with fail
    refine AW.out.mono ?_
    rintro e w1 ⟨rfl, hb⟩
    have H1 := Lib.hid (HV.out.keep hb)
    have HB1 := Lib.hid hb
    clear hb AW
    go_wp2_with fail
    refine (FW.out _ H1.out).mono ?_
    rintro e w2 ⟨rfl, hb⟩
    have HB2 := Lib.hid (below2 HB1.out hb)
    clear hb FW H1 HB1
    go_wp2_with fail
    refine (awake11 w2).mono ?_
    rintro e w3 ⟨rfl, hb⟩
    have HB3 := Lib.hid (below2 HB2.out hb)
    clear hb
    go_wp2
    go_ret
    exact ⟨rfl, HB3.out⟩
end Go.Proofs.Ytecalnglidjmgaa
