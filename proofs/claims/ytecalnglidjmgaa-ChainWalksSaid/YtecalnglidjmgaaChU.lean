/- The walk of ChainWalks. -/
import Derived.Test.YtecalnglidjmgaaChP
import Derived.Test.YtecalnglidjmgaaChT
namespace Go.Proofs.Ytecalnglidjmgaa
open Go.RowKit

set_option maxRecDepth 100000 in
set_option maxHeartbeats 16000000 in
theorem walkChainWalks (v : Value) (l : List Ent) (t last stop : Int) (w : World) (hv : IsEnts w v l ∧ ∀ x ∈ l, Sized x.2) (_ : (Lit.int .i64 t).wf = true) (_ : (Lit.int .i64 last).wf = true) (_ : (Lit.int .i64 stop).wf = true) :
    Calls Try.prog 3 #[v, .int .i64 t, .int .i64 last, .int .i64 stop] w fun e w' => e = .returned (.bool true) ∧ Below w.heap.size w w' := by
  obtain ⟨hv, hz⟩ := hv
  have HV := Lib.hid hv
  obtain ⟨va, vc, rfl, _⟩ := hv
  have AW := Lib.hid (awake11 w)
  by_cases hf : FewL l
  · have HF := Lib.hid hf
    have hn : l.length ≤ 200 := hf.1
    have FW := Lib.hid (fun (W : World) (h : IsEnts W (.slice va l.length vc) l) => refFew h hz true ⟨fun _ => hf, fun _ => rfl⟩)
    clear hz hf
    go_enter Try.func3, Try.ntmps3
    go_wp2_with fail
    refine AW.out.mono ?_
    rintro e w1 ⟨rfl, hb⟩
    have H1 := Lib.hid (HV.out.keep hb)
    have HB1 := Lib.hid hb
    clear hb AW
    go_wp2_with fail
    refine (FW.out _ H1.out).mono ?_
    rintro e w2 ⟨rfl, hb⟩
    have H2 := Lib.hid (H1.out.keep hb)
    have HB2 := Lib.hid (below2 HB1.out hb)
    clear hb FW H1 HB1
    have RW := Lib.hid (und_rows l t last stop)
    generalize hCC : Ch.chain l t last = CC at *
    generalize hSS : Ch.stand l t last = SS at *
    generalize hUU : Ch.undo l t last stop = UU at *
    have EC := Lib.hid hCC
    have ES := Lib.hid hSS
    have EU := Lib.hid hUU
    clear hCC hSS hUU
    go_wp2_with fail
    have C := chChain H2.out (by omega) t last
    rw [EC.out] at C
    refine C.mono ?_
    clear C
    rintro e w3 ⟨a, Ba, rfl, hB, ha, hb⟩
    have EA := Lib.hid (Elems.ofOwn ha)
    obtain ⟨aa, ac, rfl⟩ := EA.out.form
    have H3 := Lib.hid (H2.out.keep hb)
    have HB3 := Lib.hid (below2 HB2.out hb)
    clear hb H2 HB2 ha hB
    go_wp2_with fail
    have C := refChain H3.out (by omega) t last
    rw [EC.out] at C
    refine C.mono ?_
    clear C
    rintro e w4 ⟨b, Bb, rfl, hB, hbo, hb⟩
    have EB := Lib.hid (Elems.ofOwn hbo)
    obtain ⟨ba, bc, rfl⟩ := EB.out.form
    have EA4 := Lib.hid (EA.out.keep hb)
    have H4 := Lib.hid (H3.out.keep hb)
    have HB4 := Lib.hid (below2 HB3.out hb)
    clear hb H3 HB3 hbo hB EA EC
    go_wp2_with fail
    have C := chLeft H4.out (by omega) t last
    rw [ES.out] at C
    refine C.mono ?_
    clear C
    rintro e w5 ⟨rfl, hb⟩
    have EA5 := Lib.hid (EA4.out.keep hb)
    have EB5 := Lib.hid (EB.out.keep hb)
    have H5 := Lib.hid (H4.out.keep hb)
    have HB5 := Lib.hid (below2 HB4.out hb)
    clear hb H4 HB4 EA4 EB
    go_wp2_with fail
    have C := refStand H5.out (by omega) t last
    rw [ES.out] at C
    refine C.mono ?_
    clear C
    rintro e w6 ⟨m, Bm, rfl, hB, hmo, hb⟩
    obtain ⟨ma, mc, rfl⟩ := (Elems.ofOwn hmo).form
    have EA6 := Lib.hid (EA5.out.keep hb)
    have EB6 := Lib.hid (EB5.out.keep hb)
    have H6 := Lib.hid (H5.out.keep hb)
    have HB6 := Lib.hid (below2 HB5.out hb)
    clear hb H5 HB5 EA5 EB5 hmo hB ES
    go_wp2_with fail
    have C := chUndoAll H6.out (by omega) (fit_small HF.out) t last stop
    rw [EU.out] at C
    refine C.mono ?_
    clear C
    rintro e w7 ⟨u, Bu, rfl, hB, huo, hb⟩
    have EX := Lib.hid (show RecsE w7 u UU.1 from Elems.ofOwn huo)
    obtain ⟨ua, uc, rfl⟩ := Elems.form EX.out
    have EA7 := Lib.hid (EA6.out.keep hb)
    have EB7 := Lib.hid (EB6.out.keep hb)
    have H7 := Lib.hid (H6.out.keep hb)
    have HB7 := Lib.hid (below2 HB6.out hb)
    clear hb H6 HB6 EA6 EB6 huo hB
    go_wp2_with fail
    have C := refUndoAll H7.out (by omega) t last stop
    rw [EU.out] at C
    refine C.mono ?_
    clear C
    rintro e w8 ⟨y, By, rfl, hB, hyo, hb⟩
    have EY := Lib.hid (show RecsE w8 y UU.1 from Elems.ofOwn hyo)
    obtain ⟨ya, yc, rfl⟩ := Elems.form EY.out
    have EX8 := Lib.hid (Elems.keep EX.out hb)
    have EA8 := Lib.hid (EA7.out.keep hb)
    have EB8 := Lib.hid (EB7.out.keep hb)
    have HB8 := Lib.hid (below2 HB7.out hb)
    clear hb H7 HB7 EA7 EB7 hyo hB EX EU
    go_wp2_with fail
    refine (refSame9P EA8.out EB8.out).mono ?_
    rintro e w9 ⟨rfl, hb⟩
    have EX9 := Lib.hid (Elems.keep EX8.out hb)
    have EY9 := Lib.hid (Elems.keep EY.out hb)
    have HB9 := Lib.hid (below2 HB8.out hb)
    clear hb HB8 EA8 EB8 EX8 EY
    go_wp2_with fail
    refine (refSame11 EX9.out EY9.out RW.out).mono ?_
    rintro e w10 ⟨rfl, hb⟩
    have HB10 := Lib.hid (below2 HB9.out hb)
    clear hb HB9 EX9 EY9
    go_wp2
    go_ret
    exact ⟨rfl, HB10.out⟩
  · have FW := Lib.hid (fun (W : World) (h : IsEnts W (.slice va l.length vc) l) => refFew h hz false ⟨fun h => by simp at h, fun h => absurd h hf⟩)
    clear hz hf
    go_enter Try.func3, Try.ntmps3
    go_wp2_with fail
    refine AW.out.mono ?_
    rintro e w1 ⟨rfl, hb⟩
    have H1 := Lib.hid (HV.out.keep hb)
    have HB1 := Lib.hid hb
    clear hb AW
    go_wp2_with fail
    refine (FW.out _ H1.out).mono ?_
    rintro e w2 ⟨rfl, hb⟩
    have HB2 := Lib.hid (below2 HB1.out hb)
    clear hb FW H1 HB1
    go_wp2_with fail
    refine (awake11 w2).mono ?_
    rintro e w3 ⟨rfl, hb⟩
    have HB3 := Lib.hid (below2 HB2.out hb)
    clear hb
    go_wp2
    go_ret
    exact ⟨rfl, HB3.out⟩
end Go.Proofs.Ytecalnglidjmgaa
