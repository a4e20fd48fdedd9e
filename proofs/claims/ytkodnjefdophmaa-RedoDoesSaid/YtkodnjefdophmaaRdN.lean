/- careenlaw14: the walks of RedoDoes. (By gen/genredo14.py.) -/
import Derived.Test.YtkodnjefdophmaaRdM
namespace Go.Proofs.Ytkodnjefdophmaa
open Go.RowKit

section
set_option maxRecDepth 100000
set_option maxHeartbeats 16000000
theorem walkRedoDoes (v : Value) (L : List Ent) (from_ : Int) (vs : Value) (l : List Hs.Pge) (n : Int) (w : World) (hv : IsEnts w v L ∧ ∀ x ∈ L, Sized x.2) (_ : (Lit.int .i64 from_).wf = true) (hp : PgSrc w vs l ∧ ∀ p ∈ l, p.2.size ≤ maxLen) (_ : (Lit.int .i64 n).wf = true) :
    Calls Try.prog 3 #[v, .int .i64 from_, vs, .int .i64 n] w fun e w' => e = .returned (.bool true) ∧ Below w.heap.size w w' := by
  obtain ⟨hv, hz⟩ := hv
  obtain ⟨hp, hpz⟩ := hp
  have AW := Lib.hid awake14
  by_cases h_FW : FewL L
  · skip
    by_cases h_PW : FewP l
    · skip
      have FW := Lib.hid (fun W (h : Below w.heap.size w W) => refFew (hv.keep h) hz true ⟨fun _ => h_FW, fun _ => rfl⟩)
      have PW := Lib.hid (fun W (h : Below w.heap.size w W) => few14_any (hp.1.keep h) hpz true ⟨fun _ => h_PW, fun _ => rfl⟩)
      obtain ⟨i0, hi0, hzz⟩ := Option.map_eq_some_iff.1 infoPg
      simp only [Prod.mk.injEq] at hzz
      obtain ⟨hz0, hz1, hz2⟩ := hzz
      have SR := Lib.hid (fun W (h : Below w.heap.size w W) => (hp.1.keep h))
      have SP := Lib.hid (fun W (h : Below w.heap.size w W) => (hp.keep h).src)
      have H1 := Lib.hid (fun W (h : Below w.heap.size w W) u B (hu : W.ownsRow B 30 2 u l.length (pgV l)) => rdPages_any (vs := u) from_ (hv.keep h) (fit_after h_FW) (.ofOwn hu) h_PW.small.1 h_PW.small.2)
      have H2 := Lib.hid (fun W (h : Below w.heap.size w W) => refPages14_any from_ (hv.keep h) (hp.keep h) h_PW.small.1)
      have H3 := Lib.hid (fun W (h : Below w.heap.size w W) => rdOne_any n (hv.keep h) (fit_after h_FW))
      have H4 := Lib.hid (fun W (h : Below w.heap.size w W) => refOne14_any n (hv.keep h))
      have PL := Lib.hid (pgs_len L from_ l)
      have HLM : Hid (l.length ≤ maxLen) := by show _ ≤ _; have := h_PW.1; unfold maxLen; omega
      have hla : (l.length : Int) ≤ 20 := by have := h_PW.1; omega
      obtain ⟨va, vc, rfl⟩ := IsEnts.form hv
      obtain ⟨pa, pc, rfl⟩ := hp.1.form
      clear hv hp hz hpz h_FW h_PW
      go_enter Try.func3, Try.ntmps3
      go_wp2_with fail
      refine (AW.out _).mono ?_
      rintro e w1 ⟨rfl, hb⟩
      have HB1 := Lib.hid hb
      clear hb
      go_wp2_with fail
      refine (FW.out _ HB1.out).mono ?_
      rintro e w2 ⟨rfl, hb⟩
      have HB2 := Lib.hid (below2 HB1.out hb)
      clear hb
      go_wp2_with fail
      refine (PW.out _ HB2.out).mono ?_
      rintro e w3 ⟨rfl, hb⟩
      have HB3 := Lib.hid (below2 HB2.out hb)
      clear hb AW FW PW
      have hb3 := HB3.out.size
      go_wp2_with (at_builtin; refine wpList_append_full rfl (.tmp 25) (.tmp 26) 23 rfl w.heap.size 30 i0 (.agg #[.int .i64 0, .string ⟨#[]⟩]) 2 24 Try.underlying23 hi0 hz0 hz1 hz2 rfl (by decide) _ 0 [] rfl (own_void14 hb3 (Blk.new w3 _ _)) (.inr ⟨w3.heap.size, rfl⟩) _ _ _ rfl (SP.out _ (HB3.out.alloc hb3 _)) (by simp only [maxLen]; omega) (by omega) (by first | omega | (simp; omega)) ?_)
      intro u w4 hown hb4 _
      have HB4 : Hid (Below w.heap.size w w4) := (HB3.out.alloc hb3 (.cells #[] 30)).trans (hb4.mono (by first | omega | (simp; omega)))
      replace hown : w4.ownsRow w.heap.size 30 2 u l.length (pgV l) := by first | exact hown | simpa using hown
      obtain ⟨ua, uc, rfl⟩ := own_slice hown
      have C := Lib.hid (H1.out _ HB4.out _ _ hown)
      clear hown hb4 hi0 hz0 hz1 hz2 SP H1 hb3
      go_wp2_with fail
      refine C.out.mono ?_
      rintro e w5 ⟨⟨g, rfl, hg, hG⟩, hb⟩
      have HB5 := Lib.hid (below2 HB4.out hb)
      have HG5 := Lib.hid (IsPgs.ofBlk hG PL.out HLM.out)
      clear hb hG hg C
      go_wp2_with fail
      refine (H2.out _ HB5.out).mono ?_
      rintro e w6 ⟨⟨u2, rfl, hu2⟩, hb⟩
      have HB6 := Lib.hid (below2 HB5.out hb)
      have HG6 := Lib.hid (HG5.out.keep hb)
      rw [← PL.out] at hu2
      have HU6 := Lib.hid (IsPgs.ofOwn hu2)
      obtain ⟨ua2, uc2, rfl⟩ := own_slice hu2
      rw [PL.out] at HU6
      have HUU : Hid (IsPgs w6 (.slice ua2 l.length uc2) (pgs14 L from_ l)) := by exact HU6.out
      have C := Lib.hid (refSame14_any HG6.out HUU.out true (decide_eq_true rfl).symm)
      rw [PL.out]
      clear hb hu2 HG5 H2 HU6 HUU
      go_wp2_with fail
      refine C.out.mono ?_
      rintro e w7 ⟨rfl, hb⟩
      have HB7 := Lib.hid (below2 HB6.out hb)
      have HG7 := Lib.hid (HG6.out.keep hb)
      clear hb C HG6
      go_wp2_with fail
      refine (H3.out _ HB7.out).mono ?_
      rintro e w8 ⟨rfl, hb⟩
      have HB8 := Lib.hid (below2 HB7.out hb)
      have HG8 := Lib.hid (HG7.out.keep hb)
      clear hb HG7 H3
      generalize Hs.oneL L n = q at *
      obtain ⟨q1, q2⟩ := q
      simp only at H4
      go_wp2_with fail
      refine (H4.out _ HB8.out).mono ?_
      rintro e w9 ⟨rfl, hb⟩
      have HB9 := Lib.hid (below2 HB8.out hb)
      have C := Lib.hid (rdSame_any (HG8.out.keep hb) (SR.out _ HB9.out) (decide (pgs14 L from_ l = l)) rfl)
      have HG9 := Lib.hid (HG8.out.keep hb)
      have eT : (q1 == q1 && q2.toList == q2.toList) = true := by simp
      clear hb HG8 H4
      generalize hbb : decide (pgs14 L from_ l = l) = bb at *
      have HBB := Lib.hid hbb
      clear hbb
      go_wp2_with (refine wp_page_eql _ _ _ rfl rfl _ _ _ _ rfl rfl ?_; rw [eT])
      refine C.out.mono ?_
      rintro e w10 ⟨rfl, hb⟩
      have HB10 := Lib.hid (below2 HB9.out hb)
      have C2 := Lib.hid (refSame14_any (HG9.out.keep hb) (SR.out _ HB10.out) bb HBB.out.symm)
      clear hb C HG9 SR HBB
      go_wp2_with fail
      refine C2.out.mono ?_
      rintro e w11 ⟨rfl, hb⟩
      have HB11 := Lib.hid (below2 HB10.out hb)
      clear hb C2
      go_wp2
      go_ret
      exact ⟨by simp, HB11.out⟩
    · skip
      have FW := Lib.hid (fun W (h : Below w.heap.size w W) => refFew (hv.keep h) hz true ⟨fun _ => h_FW, fun _ => rfl⟩)
      have PW := Lib.hid (fun W (h : Below w.heap.size w W) => few14_any (hp.1.keep h) hpz false ⟨fun e => absurd e (by decide), fun h => absurd h h_PW⟩)
      obtain ⟨va, vc, rfl⟩ := IsEnts.form hv
      obtain ⟨pa, pc, rfl⟩ := hp.1.form
      clear hv hp hz hpz
      go_enter Try.func3, Try.ntmps3
      go_wp2_with fail
      refine (AW.out _).mono ?_
      rintro e w1 ⟨rfl, hb⟩
      have HB1 := Lib.hid hb
      clear hb
      go_wp2_with fail
      refine (FW.out _ HB1.out).mono ?_
      rintro e w2 ⟨rfl, hb⟩
      have HB2 := Lib.hid (below2 HB1.out hb)
      clear hb
      go_wp2_with fail
      refine (PW.out _ HB2.out).mono ?_
      rintro e w3 ⟨rfl, hb⟩
      have HB3 := Lib.hid (below2 HB2.out hb)
      clear hb
      go_wp2_with fail
      refine (AW.out _).mono ?_
      rintro e w4 ⟨rfl, hb⟩
      have HB4 := Lib.hid (below2 HB3.out hb)
      clear hb
      go_wp2
      go_ret
      exact ⟨rfl, HB4.out⟩
  · skip
    have FW := Lib.hid (fun W (h : Below w.heap.size w W) => refFew (hv.keep h) hz false ⟨fun e => absurd e (by decide), fun h => absurd h h_FW⟩)
    obtain ⟨va, vc, rfl⟩ := IsEnts.form hv
    obtain ⟨pa, pc, rfl⟩ := hp.1.form
    clear hv hp hz hpz
    go_enter Try.func3, Try.ntmps3
    go_wp2_with fail
    refine (AW.out _).mono ?_
    rintro e w1 ⟨rfl, hb⟩
    have HB1 := Lib.hid hb
    clear hb
    go_wp2_with fail
    refine (FW.out _ HB1.out).mono ?_
    rintro e w2 ⟨rfl, hb⟩
    have HB2 := Lib.hid (below2 HB1.out hb)
    clear hb
    go_wp2_with fail
    refine (AW.out _).mono ?_
    rintro e w3 ⟨rfl, hb⟩
    have HB3 := Lib.hid (below2 HB2.out hb)
    clear hb
    go_wp2
    go_ret
    exact ⟨rfl, HB3.out⟩
end
end Go.Proofs.Ytkodnjefdophmaa
