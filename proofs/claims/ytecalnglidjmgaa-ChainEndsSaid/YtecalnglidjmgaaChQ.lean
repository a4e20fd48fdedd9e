/- The walk of ChainStops. -/
import Derived.Test.YtecalnglidjmgaaChP
namespace Go.Proofs.Ytecalnglidjmgaa
open Go.RowKit

theorem RecsE.first {w : World} {a : Option Addr} {n cap : Nat} {A B : List Rc} (h : RecsE w (.slice a n cap) (A ++ B)) : RecsE w (.slice a A.length cap) A := by
  obtain ⟨a', cap', e, h1, h2, hx⟩ := h
  simp only [Value.slice.injEq] at e
  obtain ⟨rfl, rfl, rfl⟩ := e
  rw [List.length_append] at h1
  refine ⟨a, cap, rfl, by omega, h2, fun j x hj => hx j x ?_⟩
  have e : recsN (A ++ B) = recsN A ++ recsN B := by simp [recsN]
  rw [e, List.getElem?_append_left (List.getElem?_eq_some_iff.1 hj).1]
  exact hj
theorem RecsE.last {w : World} {b off n cap : Nat} {A B : List Rc} (h : RecsE w (.slice (some ⟨b, off, none⟩) n cap) (A ++ B)) : RecsE w (.slice (some ⟨b, off + A.length * 11, none⟩) B.length (cap - A.length)) B := by
  obtain ⟨a', cap', e, h1, h2, hx⟩ := h
  simp only [Value.slice.injEq] at e
  obtain ⟨rfl, rfl, rfl⟩ := e
  rw [List.length_append] at h1
  refine ⟨_, _, rfl, by omega, by omega, fun j x hj => ?_⟩
  have e : recsN (A ++ B) = recsN A ++ recsN B := by simp [recsN]
  obtain ⟨b', off', e2, hc⟩ := hx (A.length * 11 + j) x (by
    rw [e, List.getElem?_append_right (by rw [recsN_len]; omega), recsN_len, show A.length * 11 + j - A.length * 11 = j by omega]
    exact hj)
  simp only [Option.some.injEq, Addr.mk.injEq, and_true] at e2
  obtain ⟨rfl, rfl⟩ := e2
  exact ⟨b, off + A.length * 11, rfl, by rw [Nat.add_assoc]; exact hc⟩

set_option maxRecDepth 100000 in
set_option maxHeartbeats 16000000 in
theorem walkChainStops (v : Value) (l : List Ent) (t last stop : Int) (w : World) (hv : IsEnts w v l ∧ ∀ x ∈ l, Sized x.2) (_ : (Lit.int .i64 t).wf = true) (_ : (Lit.int .i64 last).wf = true) (_ : (Lit.int .i64 stop).wf = true) :
    Calls Try.prog 5 #[v, .int .i64 t, .int .i64 last, .int .i64 stop] w fun e w' => e = .returned (.bool true) ∧ Below w.heap.size w w' := by
  obtain ⟨hv, hz⟩ := hv
  have HV := Lib.hid hv
  obtain ⟨va, vc, rfl, _⟩ := hv
  have AW := Lib.hid (awake11 w)
  by_cases hf : FewL l
  · have HF := Lib.hid hf
    have hn : l.length ≤ 200 := hf.1
    have FW := Lib.hid (fun (W : World) (h : IsEnts W (.slice va l.length vc) l) => refFew h hz true ⟨fun _ => hf, fun _ => rfl⟩)
    clear hz hf
    go_enter Try.func5, Try.ntmps5
    go_wp2_with fail
    refine AW.out.mono ?_
    rintro e w1 ⟨rfl, hb⟩
    have H1 := Lib.hid (HV.out.keep hb)
    have HB1 := Lib.hid hb
    clear hb AW
    go_wp2_with fail
    refine (FW.out _ H1.out).mono ?_
    rintro e w2 ⟨rfl, hb⟩
    have H2 := Lib.hid (H1.out.keep hb)
    have HB2 := Lib.hid (below2 HB1.out hb)
    clear hb FW H1 HB1
    have ST := Lib.hid (fun h1 h2 => Ch.stops (l := l) (t := t) (p := last) (s := stop) h1 h2)
    have RW := Lib.hid (und_rows l t last)
    go_wp2_with fail
    refine (chUndoAll H2.out (by omega) (fit_small HF.out) t last 0).mono ?_
    rintro e w3 ⟨u, B, rfl, hB, hu, hb⟩
    have R1 := Lib.hid (RW.out 0)
    generalize hU : (Ch.undo l t last 0).1 = U at *
    generalize hE1 : (Ch.undo l t last 0).2 = E1 at *
    have eu : RecsE w3 u U := Elems.ofOwn hu
    have EU := Lib.hid eu
    obtain ⟨ua, uc, rfl⟩ := Elems.form eu
    have hul := Elems.le eu
    have H3 := Lib.hid (H2.out.keep hb)
    have HB3 := Lib.hid (below2 HB2.out hb)
    have UO := Lib.hid (own_any hu)
    clear hb H2 HB2 hU hE1 eu hu hB
    go_wp2_with fail
    refine (chUndoAll H3.out (by omega) (fit_small HF.out) t last stop).mono ?_
    rintro e w4 ⟨x, B', rfl, hB, hx, hb⟩
    have R2 := Lib.hid (RW.out stop)
    generalize hX : (Ch.undo l t last stop).1 = X at *
    generalize hE2 : (Ch.undo l t last stop).2 = E2 at *
    have ex : RecsE w4 x X := Elems.ofOwn hx
    have EX := Lib.hid ex
    obtain ⟨xa, xc, rfl⟩ := Elems.form ex
    have hxl := Elems.le ex
    have EU4 := Lib.hid (Elems.keep EU.out hb)
    have H4 := Lib.hid (H3.out.keep hb)
    have HB4 := Lib.hid (below2 HB3.out hb)
    unfold maxLen at hul hxl
    clear hb H3 HB3 hX hE2 ex hx hB EU
    by_cases h1 : E1 = 0
    · have hb1 : ((E1 : Int) != 0) = false := by simp [h1]
      by_cases h2 : 0 ≤ stop
      · obtain ⟨h3, rest, h4, h5⟩ := ST.out h1 h2
        have hb2 : ((E2 : Int) != 0) = false := by simp [h3]
        have hs0 : decide (stop < 0) = false := by rw [decide_eq_false_iff_not]; omega
        have hle : X.length ≤ U.length := by rw [h4, List.length_append]; omega
        have hlb : decide ((U.length : Int) < (X.length : Int)) = false := by rw [decide_eq_false_iff_not]; omega
        have H45 := Lib.hid (And.intro h4 h5)
        clear ST h1 h3 h4 h5
        have huc : U.length ≤ uc := by
          obtain ⟨_, _, e, h, _⟩ := EU4.out
          simp only [Value.slice.injEq] at e
          obtain ⟨_, _, rfl⟩ := e
          exact h
        have hxu : X.length ≤ uc := by omega
        have ecut : RecsE w4 (.slice ua X.length uc) X := by
          have h := EU4.out
          rw [H45.out.1] at h
          exact RecsE.first (B := rest) h
        have ECUT := Lib.hid ecut
        clear ecut
        go_wp2_with fail
        refine (refSame11 EX.out ECUT.out R2.out).mono ?_
        rintro e w5 ⟨rfl, hb⟩
        have H5 := Lib.hid (H4.out.keep hb)
        have HB5 := Lib.hid (below2 HB4.out hb)
        have EX5 := Lib.hid (Elems.keep EX.out hb)
        have EU5 := Lib.hid (Elems.keep EU4.out hb)
        clear hb H4 HB4 EX EU4 ECUT
        by_cases hx0 : X = []
        · have hxz : ((X.length : Int) == 0) = true := by rw [hx0]; rfl
          clear hx0
          go_wp2
          go_ret
          exact ⟨rfl, HB5.out⟩
        · have hxp : 0 < X.length := Nat.pos_of_ne_zero fun e => hx0 (List.eq_nil_of_length_eq_zero e)
          have hxz : ((X.length : Int) == 0) = false := by simp; omega
          obtain ⟨P, r, hPX⟩ : ∃ P r, X = P ++ [r] := ⟨X.dropLast, X.getLast hx0, (List.dropLast_concat_getLast hx0).symm⟩
          have hnext := Lib.hid (H45.out.2 P r hPX)
          have hplen : X.length = P.length + 1 := by rw [hPX]; simp
          have hXP : X[P.length]'(by omega) = r := by subst hPX; simp
          obtain ⟨xb, xo, xc', e1, hxc, ltx, dx⟩ := RecsE.at_ (l := X) EX5.out P.length (by omega)
          simp only [Value.slice.injEq, true_and] at e1
          obtain ⟨rfl, rfl⟩ := e1
          rw [hXP] at dx
          have dn : w5.cell? ⟨xb, xo + P.length * 11 + 5, none⟩ = some (.int .i64 r.next) := dx 5 _ rfl
          have HPX := Lib.hid hPX
          have hpi : (X.length : Int) - 1 = P.length := by omega
          have hpl : (P.length : Int) < X.length := by omega
          clear dx hXP hPX hx0
          go_wp2_with fail
          have C := chUndoAll H5.out (by omega) (fit_small HF.out) t r.next 0
          have R3 := und_rows l t r.next 0
          rw [hnext.out] at C R3
          refine C.mono ?_
          clear C
          rintro e w6 ⟨y, B'', rfl, hB, hy, hb⟩
          have EY := Lib.hid (show RecsE w6 y rest from Elems.ofOwn hy)
          obtain ⟨ya, yc, rfl⟩ := Elems.form EY.out
          have HB6 := Lib.hid (below2 HB5.out hb)
          have EU6 := Lib.hid (Elems.keep EU5.out hb)
          clear hb hB hy H5 HB5 EU5 EX5 dn ltx
          have RR3 := Lib.hid R3
          have HPL := Lib.hid hplen
          clear R3
          have huc2 : P.length + 1 ≤ uc := by omega
          have hUl : U.length = P.length + 1 + rest.length := by rw [H45.out.1, List.length_append]; omega
          have hdiff : (U.length : Int) - ((P.length : Int) + 1) = rest.length := by omega
          by_cases hcx : uc = P.length + 1
          · have hr0 : rest = [] := List.eq_nil_of_length_eq_zero (by omega)
            subst hr0
            subst hcx
            have ES := Lib.hid (show RecsE w6 (.slice ua 0 0) [] from ⟨ua, 0, rfl, Nat.le_refl _, Nat.zero_le _, fun j x hj => by cases hj⟩)
            go_wp2_with fail
            refine (refSame11 EY.out ES.out RR3.out).mono ?_
            rintro e w7 ⟨rfl, hb⟩
            have HB7 := Lib.hid (below2 HB6.out hb)
            clear hb
            go_wp2
            go_ret
            exact ⟨rfl, HB7.out⟩
          · have esuf : ∀ b off, ua = some ⟨b, off, none⟩ → RecsE w6 (.slice (some ⟨b, off + (P.length + 1) * 11, none⟩) rest.length (uc - (P.length + 1))) rest := fun b off e => by
              have h := EU6.out
              rw [e, H45.out.1] at h
              have h2 := RecsE.last (A := X) (B := rest) h
              rw [HPL.out] at h2
              exact h2
            have hua : ∃ b off, ua = some ⟨b, off, none⟩ := by
              have h := EU6.out
              rw [H45.out.1] at h
              obtain ⟨b, off, _, e, _⟩ := RecsE.at_ (l := X ++ rest) h 0 (by rw [List.length_append]; omega)
              simp only [Value.slice.injEq] at e
              exact ⟨b, off, e.1⟩
            obtain ⟨b, off, rfl⟩ := hua
            have ES := Lib.hid (esuf b off rfl)
            clear esuf
            go_wp2_with fail
            refine (refSame11 EY.out ES.out RR3.out).mono ?_
            rintro e w7 ⟨rfl, hb⟩
            have HB7 := Lib.hid (below2 HB6.out hb)
            clear hb
            go_wp2
            go_ret
            exact ⟨rfl, HB7.out⟩
      · have hs0 : decide (stop < 0) = true := by rw [decide_eq_true_eq]; omega
        clear ST h1
        go_wp2
        go_ret
        exact ⟨rfl, HB4.out⟩
    · have hb1 : ((E1 : Int) != 0) = true := by simp; omega
      clear ST h1
      go_wp2
      go_ret
      exact ⟨rfl, HB4.out⟩
  · have FW := Lib.hid (fun (W : World) (h : IsEnts W (.slice va l.length vc) l) => refFew h hz false ⟨fun h => by simp at h, fun h => absurd h hf⟩)
    clear hz hf
    go_enter Try.func5, Try.ntmps5
    go_wp2_with fail
    refine AW.out.mono ?_
    rintro e w1 ⟨rfl, hb⟩
    have H1 := Lib.hid (HV.out.keep hb)
    have HB1 := Lib.hid hb
    clear hb AW
    go_wp2_with fail
    refine (FW.out _ H1.out).mono ?_
    rintro e w2 ⟨rfl, hb⟩
    have HB2 := Lib.hid (below2 HB1.out hb)
    clear hb FW H1 HB1
    go_wp2_with fail
    refine (awake11 w2).mono ?_
    rintro e w3 ⟨rfl, hb⟩
    have HB3 := Lib.hid (below2 HB2.out hb)
    clear hb
    go_wp2
    go_ret
    exact ⟨rfl, HB3.out⟩
end Go.Proofs.Ytecalnglidjmgaa
