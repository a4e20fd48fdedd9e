/- careenlaw14: the walks of RedoAgain and RedoDoes. (By gen/genredo14.py.) -/
import Derived.Test.YtkodnjefdophmaaRdL
import Derived.Test.YtkodnjefdophmaaOpenEnts
import Derived.Test.YtkodnjefdophmaaOpenPgs
namespace Go.Proofs.Ytkodnjefdophmaa
open Go.RowKit

theorem apP_size (p : Hs.Pge) (x : Int) (r : Rc) : (Hs.apP p x r).2.size = p.2.size := by
  unfold Hs.apP
  split
  · rename_i k
    obtain ⟨_, _, k3, _, k5⟩ := k
    have h1 := k5.1
    have h2 := k5.2
    exact putS_size (by rw [k3.2]; omega)
  · rfl
def fold14 (p : Hs.Pge) (l : List En) : Hs.Pge := Hs.apA.fold p l
theorem foldP_size : ∀ (l : List En) (p : Hs.Pge), (fold14 p l).2.size = p.2.size
  | [], _ => rfl
  | x :: l, p => (foldP_size l (Hs.apP p x.1 x.2)).trans (apP_size p x.1 x.2)
theorem IsEnts.form {w : World} {v : Value} {l : List Ent} (h : IsEnts w v l) : ∃ a c, v = .slice a l.length c := let ⟨a, c, e, _⟩ := h; ⟨a, c, e⟩
theorem IsPgs.ofBlk {w : World} {g n t : Nat} {l : List Hs.Pge} (h : Blk w g t (pgV l).toArray) (hn : l.length = n) (hm : n ≤ maxLen) : IsPgs w (.slice (some ⟨g, 0, none⟩) n n) l := by
  subst hn
  exact .ofOwn (own_ofBlk h (Nat.zero_le _) hm (pgV_len l))
theorem pgs_at (L : List En) (from_ : Int) (l : List Hs.Pge) (n : Nat) : (pgs14 L from_ l)[n]? = l[n]?.map fun p => fold14 p (Ap.of from_ n L) := Hs.apA.pages_at from_ n L l
theorem pgs_small {L : List En} {from_ : Int} {l : List Hs.Pge} {m : Nat} (h : ∀ p ∈ l, p.2.size ≤ m) : ∀ p ∈ pgs14 L from_ l, p.2.size ≤ m := fun p hp => by
  obtain ⟨n, hn, rfl⟩ := List.getElem_of_mem hp
  have e := pgs_at L from_ l n
  rw [List.getElem?_eq_getElem hn] at e
  obtain ⟨q, hq, e2⟩ := Option.map_eq_some_iff.1 e.symm
  rw [← e2]
  exact Nat.le_trans (Nat.le_of_eq (foldP_size _ _)) (h q (List.mem_of_getElem? hq))
theorem FewP.small {l : List Hs.Pge} (h : FewP l) : l.length ≤ 1000 ∧ ∀ p ∈ l, p.2.size ≤ 100000 := ⟨by have := h.1; omega, fun p hp => by have := h.2 p hp; omega⟩
theorem fit_after {L : List En} (h : FewL L) : ∀ x ∈ L, x.2.after.size ≤ maxLen := fun x hx => by have := (h.2 x hx).after; unfold maxLen; omega

section
set_option maxRecDepth 100000
set_option maxHeartbeats 16000000
theorem walkRedoAgain (v : Value) (L : List Ent) (from_ again_ : Int) (vs : Value) (l : List Hs.Pge) (w : World) (hv : IsEnts w v L ∧ ∀ x ∈ L, Sized x.2) (_ : (Lit.int .i64 from_).wf = true) (_ : (Lit.int .i64 again_).wf = true) (hp : PgSrc w vs l ∧ ∀ p ∈ l, p.2.size ≤ maxLen) :
    Calls Try.prog 5 #[v, .int .i64 from_, .int .i64 again_, vs] w fun e w' => e = .returned (.bool true) ∧ Below w.heap.size w w' := by
  obtain ⟨hv, hz⟩ := hv
  obtain ⟨hp, hpz⟩ := hp
  have AW := Lib.hid awake14
  by_cases h_FW : FewL L
  · skip
    by_cases h_RW : Ch.Rises L
    · skip
      by_cases h_PW : FewP l
      · skip
        have FW := Lib.hid (fun W (h : Below w.heap.size w W) => refFew (hv.keep h) hz true ⟨fun _ => h_FW, fun _ => rfl⟩)
        have RW := Lib.hid (fun W (h : Below w.heap.size w W) => refRises (hv.keep h) true (decide_eq_true h_RW).symm)
        have PW := Lib.hid (fun W (h : Below w.heap.size w W) => few14_any (hp.1.keep h) hpz true ⟨fun _ => h_PW, fun _ => rfl⟩)
        have H1 := Lib.hid (fun W (h : Below w.heap.size w W) => rdPages_any from_ (hv.keep h) (fit_after h_FW) (hp.1.keep h) h_PW.small.1 h_PW.small.2)
        have H2 := Lib.hid (fun W (h : Below w.heap.size w W) g (hg : Blk W g 30 (pgV (pgs14 L from_ l)).toArray) => rdPages_any (vs := .slice (some ⟨g, 0, none⟩) l.length l.length) again_ (hv.keep h) (fit_after h_FW) (l := pgs14 L from_ l) (.ofBlk hg (pgs_len L from_ l) (by have := h_PW.1; unfold maxLen; omega)) (by rw [pgs_len]; exact h_PW.small.1) (pgs_small h_PW.small.2))
        have TW := Lib.hid (fun (h : from_ ≤ again_) => (show pgs14 L again_ (pgs14 L from_ l) = pgs14 L from_ l from Hs.apA.twice h_RW h l))
        have PL := Lib.hid (pgs_len L from_ l)
        have PL2 := Lib.hid (pgs_len L again_ (pgs14 L from_ l))
        have HLM : Hid (l.length ≤ maxLen) := by show _ ≤ _; have := h_PW.1; unfold maxLen; omega
        obtain ⟨va, vc, rfl⟩ := IsEnts.form hv
        obtain ⟨pa, pc, rfl⟩ := hp.1.form
        clear hv hp hz hpz h_FW h_RW h_PW
        go_enter Try.func5, Try.ntmps5
        go_wp2_with fail
        refine (AW.out _).mono ?_
        rintro e w1 ⟨rfl, hb⟩
        have HB1 := Lib.hid hb
        clear hb
        go_wp2_with fail
        refine (FW.out _ HB1.out).mono ?_
        rintro e w2 ⟨rfl, hb⟩
        have HB2 := Lib.hid (below2 HB1.out hb)
        clear hb
        go_wp2_with fail
        refine (RW.out _ HB2.out).mono ?_
        rintro e w3 ⟨rfl, hb⟩
        have HB3 := Lib.hid (below2 HB2.out hb)
        clear hb
        go_wp2_with fail
        refine (PW.out _ HB3.out).mono ?_
        rintro e w4 ⟨rfl, hb⟩
        have HB4 := Lib.hid (below2 HB3.out hb)
        clear hb AW FW RW PW
        go_wp2_with fail
        refine (H1.out _ HB4.out).mono ?_
        rintro e w5 ⟨⟨g, rfl, hg, hG⟩, hb⟩
        have HB5 := Lib.hid (below2 HB4.out hb)
        have HG5 := Lib.hid hG
        clear hb hG hg H1
        by_cases hlt : again_ < from_
        · go_wp2
          go_ret
          exact ⟨rfl, HB5.out⟩
        · have HT := Lib.hid (TW.out (by omega))
          go_wp2_with fail
          refine (H2.out _ HB5.out _ HG5.out).mono ?_
          rw [PL.out]
          rintro e w6 ⟨⟨g2, rfl, hg2, hG2⟩, hb⟩
          rw [HT.out] at hG2
          have HB6 := Lib.hid (below2 HB5.out hb)
          have hG5 := HG5.out.keep hb HG5.out.lt
          have C := Lib.hid (refSame14_any (w := w6) (va := .slice (some ⟨g2, 0, none⟩) l.length l.length) (vb := .slice (some ⟨g, 0, none⟩) l.length l.length) (l := pgs14 L from_ l) (m := pgs14 L from_ l)
            (.ofBlk hG2 PL.out HLM.out) (.ofBlk hG5 PL.out HLM.out) true (decide_eq_true rfl).symm)
          clear hb hG2 hG5 HG5 H2 hg2
          go_wp2_with fail
          refine C.out.mono ?_
          rintro e w7 ⟨rfl, hb⟩
          have HB7 := Lib.hid (below2 HB6.out hb)
          clear hb
          go_wp2
          go_ret
          exact ⟨rfl, HB7.out⟩
      · skip
        have FW := Lib.hid (fun W (h : Below w.heap.size w W) => refFew (hv.keep h) hz true ⟨fun _ => h_FW, fun _ => rfl⟩)
        have RW := Lib.hid (fun W (h : Below w.heap.size w W) => refRises (hv.keep h) true (decide_eq_true h_RW).symm)
        have PW := Lib.hid (fun W (h : Below w.heap.size w W) => few14_any (hp.1.keep h) hpz false ⟨fun e => absurd e (by decide), fun h => absurd h h_PW⟩)
        obtain ⟨va, vc, rfl⟩ := IsEnts.form hv
        obtain ⟨pa, pc, rfl⟩ := hp.1.form
        clear hv hp hz hpz
        go_enter Try.func5, Try.ntmps5
        go_wp2_with fail
        refine (AW.out _).mono ?_
        rintro e w1 ⟨rfl, hb⟩
        have HB1 := Lib.hid hb
        clear hb
        go_wp2_with fail
        refine (FW.out _ HB1.out).mono ?_
        rintro e w2 ⟨rfl, hb⟩
        have HB2 := Lib.hid (below2 HB1.out hb)
        clear hb
        go_wp2_with fail
        refine (RW.out _ HB2.out).mono ?_
        rintro e w3 ⟨rfl, hb⟩
        have HB3 := Lib.hid (below2 HB2.out hb)
        clear hb
        go_wp2_with fail
        refine (PW.out _ HB3.out).mono ?_
        rintro e w4 ⟨rfl, hb⟩
        have HB4 := Lib.hid (below2 HB3.out hb)
        clear hb
        go_wp2_with fail
        refine (AW.out _).mono ?_
        rintro e w5 ⟨rfl, hb⟩
        have HB5 := Lib.hid (below2 HB4.out hb)
        clear hb
        go_wp2
        go_ret
        exact ⟨rfl, HB5.out⟩
    · skip
      have FW := Lib.hid (fun W (h : Below w.heap.size w W) => refFew (hv.keep h) hz true ⟨fun _ => h_FW, fun _ => rfl⟩)
      have RW := Lib.hid (fun W (h : Below w.heap.size w W) => refRises (hv.keep h) false (decide_eq_false h_RW).symm)
      obtain ⟨va, vc, rfl⟩ := IsEnts.form hv
      obtain ⟨pa, pc, rfl⟩ := hp.1.form
      clear hv hp hz hpz
      go_enter Try.func5, Try.ntmps5
      go_wp2_with fail
      refine (AW.out _).mono ?_
      rintro e w1 ⟨rfl, hb⟩
      have HB1 := Lib.hid hb
      clear hb
      go_wp2_with fail
      refine (FW.out _ HB1.out).mono ?_
      rintro e w2 ⟨rfl, hb⟩
      have HB2 := Lib.hid (below2 HB1.out hb)
      clear hb
      go_wp2_with fail
      refine (RW.out _ HB2.out).mono ?_
      rintro e w3 ⟨rfl, hb⟩
      have HB3 := Lib.hid (below2 HB2.out hb)
      clear hb
      go_wp2_with fail
      refine (AW.out _).mono ?_
      rintro e w4 ⟨rfl, hb⟩
      have HB4 := Lib.hid (below2 HB3.out hb)
      clear hb
      go_wp2
      go_ret
      exact ⟨rfl, HB4.out⟩
  · skip
    have FW := Lib.hid (fun W (h : Below w.heap.size w W) => refFew (hv.keep h) hz false ⟨fun e => absurd e (by decide), fun h => absurd h h_FW⟩)
    obtain ⟨va, vc, rfl⟩ := IsEnts.form hv
    obtain ⟨pa, pc, rfl⟩ := hp.1.form
    clear hv hp hz hpz
    go_enter Try.func5, Try.ntmps5
    go_wp2_with fail
    refine (AW.out _).mono ?_
    rintro e w1 ⟨rfl, hb⟩
    have HB1 := Lib.hid hb
    clear hb
    go_wp2_with fail
    refine (FW.out _ HB1.out).mono ?_
    rintro e w2 ⟨rfl, hb⟩
    have HB2 := Lib.hid (below2 HB1.out hb)
    clear hb
    go_wp2_with fail
    refine (AW.out _).mono ?_
    rintro e w3 ⟨rfl, hb⟩
    have HB3 := Lib.hid (below2 HB2.out hb)
    clear hb
    go_wp2
    go_ret
    exact ⟨rfl, HB3.out⟩
end
end Go.Proofs.Ytkodnjefdophmaa
