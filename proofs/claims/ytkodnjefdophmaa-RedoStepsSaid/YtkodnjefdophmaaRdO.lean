/- careenlaw14: the walk of RedoSteps. (By gen/genredo14b.py.) -/
import Derived.Test.YtkodnjefdophmaaRdM
import Derived.Test.YtkodnjefdophmaaUint
namespace Go.Proofs.Ytkodnjefdophmaa
open Go.RowKit

theorem und_ents : Try.prog.underlying 22 = some (.slice (Try.prog.elem 22)) := by kernel_rfl
theorem elem_ents : Try.prog.elem 22 = 39 := by kernel_rfl
theorem size_ent : ∀ w, (sizeOf 39).run Try.prog w = .ok 12 w := fun w => by kernel_rfl
theorem add14 (b off k : Nat) : (⟨b, off, none⟩ : Addr).add k = ⟨b, off + k, none⟩ := by unfold Addr.add; split <;> simp_all
/-- 'list[p:]'. -/
theorem ents_from {a : Option Addr} {n cap : Nat} (hc : n ≤ cap) (p : Nat) (hp : p ≤ n) :
    ∃ a' c', (∀ W, (Instr.slice 22 (.slice a n cap) (some (.int .i64 p)) none none).run Try.prog W = .ok (.slice a' (n - p) c') W) ∧ ∀ W (L : List Ent), L.length = n → IsEnts W (.slice a n cap) L → IsEnts W (.slice a' (n - p) c') (L.drop p) := by
  refine ⟨(if cap = p then a else a.map (·.add (p * 12))), cap - p, fun W => ?_, fun W L hn hL => ?_⟩
  · have := run_slice_l (P := Try.prog) W 22 a n cap und_ents .i64 p (by omega) (by omega)
    rw [elem_ents, size_ent, Int.toNat_natCast] at this
    exact this
  · obtain ⟨a2, c2, e, h1, h2, h3⟩ := hL
    obtain ⟨rfl, _, rfl⟩ := Value.slice.inj e
    refine ⟨_, _, by rw [List.length_drop, hn], by rw [List.length_drop]; omega, by omega, fun j hj => ?_⟩
    rw [List.length_drop] at hj
    obtain ⟨b, off, vt, vp, rfl, h4, h5, h6, h7⟩ := h3 (p + j) (by omega)
    have e0 : (⟨b, off, none⟩ : Addr).add (p * 12) = ⟨b, off + p * 12, none⟩ := add14 b off (p * 12)
    refine ⟨b, off + p * 12, vt, vp, by rw [if_neg (by omega), Option.map_some, e0], h4, ?_, fun i x hi => ?_, ?_⟩
    · rw [List.getElem_drop, show off + p * 12 + j * 12 = off + (p + j) * 12 by omega]
      exact h5
    · rw [List.getElem_drop] at hi
      rw [show off + p * 12 + j * 12 + 1 + i = off + (p + j) * 12 + 1 + i by omega]
      exact h6 i x hi
    · rw [List.getElem_drop]
      exact h7
/-- 'list[:p]'. -/
theorem ents_to {a : Option Addr} {n cap : Nat} (hc : n ≤ cap) (p : Nat) (hp : p ≤ n) :
    (∀ W, (Instr.slice 22 (.slice a n cap) none (some (.int .i64 p)) none).run Try.prog W = .ok (.slice a p cap) W) ∧ ∀ W (L : List Ent), L.length = n → IsEnts W (.slice a n cap) L → IsEnts W (.slice a p cap) (L.take p) := by
  refine ⟨fun W => ?_, fun W L hn hL => ?_⟩
  · have := run_slice_h (P := Try.prog) W 22 a n cap und_ents .i64 p (by omega) (by omega)
    rw [elem_ents, size_ent, Int.toNat_natCast] at this
    rw [this]
    show Result.ok (Value.slice (if cap = 0 then a else Option.map (fun x => x.add (0 * 12)) a) p cap) W = _
    by_cases h : cap = 0
    · rw [if_pos h]
    · rw [if_neg h]
      cases a with
      | none => rfl
      | some a => simp [Addr.add]
  · subst hn
    exact IsEnts.take hL p hp
theorem fit_take {L : List En} (h : FewL L) (p : Nat) : ∀ x ∈ L.take p, x.2.after.size ≤ maxLen := fun x hx => fit_after h x (List.mem_of_mem_take hx)
theorem fit_drop {L : List En} (h : FewL L) (p : Nat) : ∀ x ∈ L.drop p, x.2.after.size ≤ maxLen := fun x hx => fit_after h x (List.mem_of_mem_drop hx)
theorem pgs_app (L M : List En) (from_ : Int) (l : List Hs.Pge) : pgs14 (L ++ M) from_ l = pgs14 M from_ (pgs14 L from_ l) := Hs.apA.pages_app from_ L M l
theorem pgs_steps (L : List En) (p : Nat) (from_ : Int) (l : List Hs.Pge) : pgs14 (L.drop p) from_ (pgs14 (L.take p) from_ l) = pgs14 L from_ l := by
  rw [← pgs_app, List.take_append_drop]

section
set_option maxRecDepth 100000
set_option maxHeartbeats 16000000
theorem walkRedoSteps (v : Value) (L : List Ent) (cut : Int) (vs : Value) (l : List Hs.Pge) (w : World) (hv : IsEnts w v L ∧ ∀ x ∈ L, Sized x.2) (_ : (Lit.int .i64 cut).wf = true) (hp : PgSrc w vs l ∧ ∀ p ∈ l, p.2.size ≤ maxLen) :
    Calls Try.prog 7 #[v, .int .i64 cut, vs] w fun e w' => e = .returned (.bool true) ∧ Below w.heap.size w w' := by
  obtain ⟨hv, hz⟩ := hv
  obtain ⟨hp, hpz⟩ := hp
  have AW := Lib.hid awake14
  by_cases h_FW : FewL L
  · skip
    by_cases h_PW : FewP l
    · skip
      have FW := Lib.hid (fun W (h : Below w.heap.size w W) => refFew (hv.keep h) hz true ⟨fun _ => h_FW, fun _ => rfl⟩)
      have PW := Lib.hid (fun W (h : Below w.heap.size w W) => few14_any (hp.1.keep h) hpz true ⟨fun _ => h_PW, fun _ => rfl⟩)
      have hLn : L.length ≤ 200 := h_FW.1
      have hM : ∃ M : Nat, Hid (wrap64 ((IntKind.u64.wrap cut).tmod ((L.length : Int) + 1)) = (M : Int) ∧ M ≤ L.length) := by
        have h3 := modN_eq cut ((L.length : Int) + 1) (by omega) (by omega)
        have h4 := modN_lt cut ((L.length : Int) + 1) (by omega)
        exact ⟨modN cut ((L.length : Int) + 1), h3, by omega⟩
      obtain ⟨M, hM⟩ := hM
      have PLn := Lib.hid (fun (K : List En) (from_ : Int) (q : List Hs.Pge) => pgs_len K from_ q)
      have STP := Lib.hid (pgs_steps L M (-4611686018427387904) l)
      have HLM : Hid (l.length ≤ maxLen) := by show _ ≤ _; have := h_PW.1; unfold maxLen; omega
      obtain ⟨va, vc, rfl⟩ := IsEnts.form hv
      have hvc : L.length ≤ vc ∧ vc ≤ maxLen := by
        obtain ⟨a2, c2, e, h1, h2, _⟩ := hv
        obtain ⟨_, _, rfl⟩ := Value.slice.inj e
        exact ⟨h1, h2⟩
      obtain ⟨da, dc, hdr, HD⟩ := ents_from (a := va) hvc.1 M hM.out.2
      obtain ⟨htk, HK⟩ := ents_to (a := va) hvc.1 M hM.out.2
      have HDR := Lib.hid hdr
      have HTK := Lib.hid htk
      have H1 := Lib.hid (fun W (h : Below w.heap.size w W) => rdPages_any (-4611686018427387904) (HK W L rfl (hv.keep h)) (fit_take h_FW M) (hp.1.keep h) h_PW.small.1 h_PW.small.2)
      have H2 := Lib.hid (fun W (h : Below w.heap.size w W) g (hg : Blk W g 30 (pgV (pgs14 (L.take M) (-4611686018427387904) l)).toArray) => rdPages_any (vs := .slice (some ⟨g, 0, none⟩) l.length l.length) (-4611686018427387904) (HD W L rfl (hv.keep h)) (fit_drop h_FW M) (l := pgs14 (L.take M) (-4611686018427387904) l) (.ofBlk hg (PLn.out _ _ _) HLM.out) (by rw [PLn.out]; exact h_PW.small.1) (pgs_small h_PW.small.2))
      have H3 := Lib.hid (fun W (h : Below w.heap.size w W) => rdPages_any (-4611686018427387904) (hv.keep h) (fit_after h_FW) (hp.1.keep h) h_PW.small.1 h_PW.small.2)
      obtain ⟨pa, pc, rfl⟩ := hp.1.form
      have HX : Hid (EntsAt w va L) := by
        obtain ⟨a2, c2, e, _, _, h3⟩ := hv
        obtain ⟨rfl, _, rfl⟩ := Value.slice.inj e
        exact h3
      have hz1 : ((L.length : Int) + 1 == 0) = false := by simp; omega
      have hwl : IntKind.i64.wrap ((L.length : Int) + 1) = (L.length : Int) + 1 := by rw [IntKind.wrap_i64]; omega
      have hwu : IntKind.u64.wrap ((L.length : Int) + 1) = (L.length : Int) + 1 := by rw [IntKind.wrap_u64]; omega
      clear hv hp hz hpz h_FW h_PW hvc hdr htk HD HK
      go_enter Try.func7, Try.ntmps7
      go_wp2_with fail
      refine (AW.out _).mono ?_
      rintro e w1 ⟨rfl, hb⟩
      have HB1 := Lib.hid hb
      clear hb
      go_wp2_with fail
      refine (FW.out _ HB1.out).mono ?_
      rintro e w2 ⟨rfl, hb⟩
      have HB2 := Lib.hid (below2 HB1.out hb)
      clear hb
      go_wp2_with fail
      refine (PW.out _ HB2.out).mono ?_
      rintro e w3 ⟨rfl, hb⟩
      have HB3 := Lib.hid (below2 HB2.out hb)
      clear hb AW FW PW
      go_upto_region 4 with fail
      rw [hM.out.1]
      clear hz1 hwl hwu
      go_upto_region 5 with fail
      have B3 : Hid (∀ W, Below w3.drew.heap.size w3.drew W → Below w.heap.size w W) := fun W h => HB3.out.drew.trans (h.mono HB3.out.size)
      refine' wp_region_conf 11 (.is _ :: .is _ :: .is _ :: .is _ :: .is _ :: .is _ :: .is _ :: .is _ :: .is _ :: .slice w3.heap.size l.length 30 (pgV (pgs14 (L.take M) (-4611686018427387904) l)).toArray :: .slice w3.heap.size l.length 30 (pgV (pgs14 L (-4611686018427387904) l)).toArray :: []) (by kernel_rfl) (by kernel_rfl) (by kernel_rfl) (by kernel_rfl) rfl ?main
      case main =>
        iterate 2 (
          apply obs_step
          · rfl
          · intro w9 hE9 hk9
            clear hk9 hE9
            as_aux_lemma =>
              go_wp2
              refine post_eq ?_ (Below.refl _ _)
              simp only [Act.put, List.setIfInBounds_toArray, List.set_cons_zero, List.set_cons_succ]
              try rfl
          · simp only [Act.put, List.setIfInBounds_toArray, List.set_cons_zero, List.set_cons_succ]
            rfl)
        iterate 1 (
          apply obs_step
          · rfl
          · intro w9 hE9 hk9
            have q1 := HDR.out
            clear hk9 hE9
            as_aux_lemma =>
              go_wp2
              refine post_eq ?_ (Below.refl _ _)
              simp only [Act.put, List.setIfInBounds_toArray, List.set_cons_zero, List.set_cons_succ]
              try rfl
          · simp only [Act.put, List.setIfInBounds_toArray, List.set_cons_zero, List.set_cons_succ]
            rfl)
        iterate 3 (
          apply obs_step
          · rfl
          · intro w9 hE9 hk9
            clear hk9 hE9
            as_aux_lemma =>
              go_wp2
              refine post_eq ?_ (Below.refl _ _)
              simp only [Act.put, List.setIfInBounds_toArray, List.set_cons_zero, List.set_cons_succ]
              try rfl
          · simp only [Act.put, List.setIfInBounds_toArray, List.set_cons_zero, List.set_cons_succ]
            rfl)
        iterate 1 (
          apply obs_step
          · rfl
          · intro w9 hE9 hk9
            have q1 := HTK.out
            clear hk9 hE9
            as_aux_lemma =>
              go_wp2
              refine post_eq ?_ (Below.refl _ _)
              simp only [Act.put, List.setIfInBounds_toArray, List.set_cons_zero, List.set_cons_succ]
              try rfl
          · simp only [Act.put, List.setIfInBounds_toArray, List.set_cons_zero, List.set_cons_succ]
            rfl)
        iterate 2 (
          apply obs_step
          · rfl
          · intro w9 hE9 hk9
            clear hk9 hE9
            as_aux_lemma =>
              go_wp2
              refine post_eq ?_ (Below.refl _ _)
              simp only [Act.put, List.setIfInBounds_toArray, List.set_cons_zero, List.set_cons_succ]
              try rfl
          · simp only [Act.put, List.setIfInBounds_toArray, List.set_cons_zero, List.set_cons_succ]
            rfl)
        refine obs_slice (fun w9 hE9 _ => ?_) (fun x9 => ?_)
        · have C := Lib.hid (H1.out _ (B3.out _ hE9))
          have hs9 := hE9.size
          go_wp2_with fail
          refine C.out.mono ?_
          rintro e w10 ⟨⟨g, rfl, hg, hG⟩, hb⟩
          go_wp2
          exact ⟨_, rfl, ⟨g, Nat.le_trans hs9 hg, rfl, hG⟩, hb⟩
        simp only [Act.put, List.setIfInBounds_toArray, List.set_cons_zero, List.set_cons_succ]
        refine obs_slice (fun w9 hE9 hk9 => ?_) (fun x10 => ?_)
        · obtain ⟨g, hg, rfl, hG⟩ : ∃ g, w3.heap.size ≤ g ∧ x9 = .slice (some ⟨g, 0, none⟩) l.length l.length ∧ Blk w9 g 30 (pgV (pgs14 (L.take M) (-4611686018427387904) l)).toArray := hk9 _ (List.mem_cons_self) (by kernel_rfl)
          have C := H2.out _ (B3.out _ hE9) g hG
          rw [PLn.out, STP.out] at C
          have C := Lib.hid C
          have hs9 := hE9.size
          clear hk9 hE9 hG
          go_wp2_with fail
          refine C.out.mono ?_
          rintro e w10 ⟨⟨g2, rfl, hg2, hG2⟩, hb⟩
          go_wp2
          exact ⟨_, rfl, ⟨g2, Nat.le_trans hs9 hg2, rfl, hG2⟩, hb⟩
        simp only [Act.put, List.setIfInBounds_toArray, List.set_cons_zero, List.set_cons_succ]
        refine obs_end fun w4 hE9 hk9 => ?_
        obtain ⟨g, hg, rfl, hG⟩ : ∃ g, w3.heap.size ≤ g ∧ x10 = .slice (some ⟨g, 0, none⟩) l.length l.length ∧ Blk w4 g 30 (pgV (pgs14 L (-4611686018427387904) l)).toArray := hk9 _ (List.mem_cons_self)
        obtain ⟨g9, _, rfl, _⟩ : ∃ g, w3.heap.size ≤ g ∧ x9 = .slice (some ⟨g, 0, none⟩) l.length l.length ∧ Blk w4 g 30 (pgV (pgs14 (L.take M) (-4611686018427387904) l)).toArray := hk9 _ (List.mem_cons_of_mem _ List.mem_cons_self)
        have HB4 := Lib.hid (B3.out _ hE9)
        have HG4 := Lib.hid hG
        have hgl := hG.lt
        clear hE9 hk9 hG hg B3 HB3 H1 H2 HDR HTK
        go_wp2_with fail
        go_loopw [45] (fun vk wr => ∃ k : Nat, vk = .int .i64 k ∧ k ≤ L.length ∧ Below w.heap.size w wr ∧ Blk wr g 30 (pgV (pgs14 L (-4611686018427387904) l)).toArray) (fun vk _ => L.length - (intOf vk).toNat)
        case atStart => exact ⟨0, rfl, Nat.zero_le _, HB4.out, HG4.out⟩
        case round =>
         obtain ⟨k, rfl, hk, hB, hr⟩ := hrel
         clear HB4 HG4
         have HB := Lib.hid hB
         have HR := Lib.hid hr
         clear hB hr
         by_cases hlt : k < L.length
         · have HLT := Lib.hid hlt
           have hkI : (k : Int) < L.length := by omega
           obtain ⟨b, off, vt, vp, rfl, lt1, la, ci⟩ := (EntsAt.keep HX.out HB.out).whole k hlt
           generalize L[k] = x at *
           clear hlt
           obtain ⟨at_, r⟩ := x
           simp only at la ci
           obtain ⟨ta, tc, rfl⟩ := la.t.form
           obtain ⟨qa, qc, rfl⟩ := la.p.form
           have c0 : wr.cell? ⟨b, off + k * 12 + 0, none⟩ = _ := ci 0 _ rfl
           have c1 : wr.cell? ⟨b, off + k * 12 + 1, none⟩ = _ := ci 1 _ rfl
           have c2 : wr.cell? ⟨b, off + k * 12 + 2, none⟩ = _ := ci 2 _ rfl
           have c3 : wr.cell? ⟨b, off + k * 12 + 3, none⟩ = _ := ci 3 _ rfl
           have c4 : wr.cell? ⟨b, off + k * 12 + 4, none⟩ = _ := ci 4 _ rfl
           have c5 : wr.cell? ⟨b, off + k * 12 + 5, none⟩ = _ := ci 5 _ rfl
           have c6 : wr.cell? ⟨b, off + k * 12 + 6, none⟩ = _ := ci 6 _ rfl
           have c7 : wr.cell? ⟨b, off + k * 12 + 7, none⟩ = _ := ci 7 _ rfl
           have c8 : wr.cell? ⟨b, off + k * 12 + 8, none⟩ = _ := ci 8 _ rfl
           have c9 : wr.cell? ⟨b, off + k * 12 + 9, none⟩ = _ := ci 9 _ rfl
           have c10 : wr.cell? ⟨b, off + k * 12 + 10, none⟩ = _ := ci 10 _ rfl
           have c11 : wr.cell? ⟨b, off + k * 12 + 11, none⟩ = _ := ci 11 _ rfl
           rw [Nat.add_zero] at c0
           clear ci
           have hn := Blk.new wr 39 #[.int .i64 0, .int .i64 0, .int .i64 0, .int .i64 0, .int .i64 0, .int .i64 0, .int .i64 0, .int .i64 0, .string ⟨#[]⟩, .string ⟨#[]⟩, .slice none 0 0, .slice none 0 0]
           have N3 := hn.setRow (entCells at_ r (.slice ta r.txns.length tc) (.slice qa r.pages.length qc))
           have hb3 := below_setRow ((Below.refl wr.heap.size wr).alloc (Nat.le_refl _) (.cells #[.int .i64 0, .int .i64 0, .int .i64 0, .int .i64 0, .int .i64 0, .int .i64 0, .int .i64 0, .int .i64 0, .string ⟨#[]⟩, .string ⟨#[]⟩, .slice none 0 0, .slice none 0 0] 39)) (Nat.le_refl _) (entCells at_ r (.slice ta r.txns.length tc) (.slice qa r.pages.length qc))
           have HR3 := Lib.hid (HR.out.keep hb3 HR.out.lt)
           have HB3 := Lib.hid (below2 HB.out hb3)
           clear hb3 HR HB la
           go_upto_region 9 with (refine wpList_store_row rfl 39 _ _ rfl wr.heap.size _ rfl rfl 39 _ hn (by kernel_rfl) rfl (by simp [entCells, Value.oneCell']) ?_)
           change Code.wp _ _ _ _ ((wr.alloc (.cells #[.int .i64 0, .int .i64 0, .int .i64 0, .int .i64 0, .int .i64 0, .int .i64 0, .int .i64 0, .int .i64 0, .string ⟨#[]⟩, .string ⟨#[]⟩, .slice none 0 0, .slice none 0 0] 39)).setRow wr.heap.size (entCells at_ r (.slice ta r.txns.length tc) (.slice qa r.pages.length qc)))
           clear hn c0 c1 c2 c3 c4 c5 c6 c7 c8 c9 c10 c11 lt1
           generalize (wr.alloc _).setRow _ _ = w9 at *
           generalize wr.heap.size = y at *
           have d0 : w9.cell? ⟨y, 0, none⟩ = some (.int .i64 at_) := N3.cell 0
           clear N3
           by_cases h1 : at_ < -4611686018427387904
           · go_wp2
             go_ret
             exact ⟨rfl, HB3.out⟩
           · go_wp2
             exact ⟨⟨k + 1, by go_num, HLT.out, HB3.out, HR3.out⟩, by simp [intOf]; have := HLT.out; omega⟩
         · obtain rfl : k = L.length := by omega
           go_wp2_with fail
           refine (H3.out _ HB.out).mono ?_
           rintro e w5 ⟨⟨g5, rfl, hg5, hG5⟩, hb⟩
           have HB5 := Lib.hid (below2 HB.out hb)
           have C := Lib.hid (refSame14_any (IsPgs.ofBlk (HR.out.keep hb HR.out.lt) (PLn.out _ _ _) HLM.out) (IsPgs.ofBlk hG5 (PLn.out _ _ _) HLM.out) true (decide_eq_true rfl).symm)
           clear hb hG5 hg5 HR HB
           go_wp2_with fail
           refine C.out.mono ?_
           rintro e w6 ⟨rfl, hb⟩
           have HB6 := Lib.hid (below2 HB5.out hb)
           clear hb
           go_wp2
           go_ret
           exact ⟨rfl, HB6.out⟩
    · skip
      have FW := Lib.hid (fun W (h : Below w.heap.size w W) => refFew (hv.keep h) hz true ⟨fun _ => h_FW, fun _ => rfl⟩)
      have PW := Lib.hid (fun W (h : Below w.heap.size w W) => few14_any (hp.1.keep h) hpz false ⟨fun e => absurd e (by decide), fun h => absurd h h_PW⟩)
      obtain ⟨va, vc, rfl⟩ := IsEnts.form hv
      obtain ⟨pa, pc, rfl⟩ := hp.1.form
      clear hv hp hz hpz
      go_enter Try.func7, Try.ntmps7
      go_wp2_with fail
      refine (AW.out _).mono ?_
      rintro e w1 ⟨rfl, hb⟩
      have HB1 := Lib.hid hb
      clear hb
      go_wp2_with fail
      refine (FW.out _ HB1.out).mono ?_
      rintro e w2 ⟨rfl, hb⟩
      have HB2 := Lib.hid (below2 HB1.out hb)
      clear hb
      go_wp2_with fail
      refine (PW.out _ HB2.out).mono ?_
      rintro e w3 ⟨rfl, hb⟩
      have HB3 := Lib.hid (below2 HB2.out hb)
      clear hb
      go_wp2_with fail
      refine (AW.out _).mono ?_
      rintro e w4 ⟨rfl, hb⟩
      have HB4 := Lib.hid (below2 HB3.out hb)
      clear hb
      go_wp2
      go_ret
      exact ⟨rfl, HB4.out⟩
  · skip
    have FW := Lib.hid (fun W (h : Below w.heap.size w W) => refFew (hv.keep h) hz false ⟨fun e => absurd e (by decide), fun h => absurd h h_FW⟩)
    obtain ⟨va, vc, rfl⟩ := IsEnts.form hv
    obtain ⟨pa, pc, rfl⟩ := hp.1.form
    clear hv hp hz hpz
    go_enter Try.func7, Try.ntmps7
    go_wp2_with fail
    refine (AW.out _).mono ?_
    rintro e w1 ⟨rfl, hb⟩
    have HB1 := Lib.hid hb
    clear hb
    go_wp2_with fail
    refine (FW.out _ HB1.out).mono ?_
    rintro e w2 ⟨rfl, hb⟩
    have HB2 := Lib.hid (below2 HB1.out hb)
    clear hb
    go_wp2_with fail
    refine (AW.out _).mono ?_
    rintro e w3 ⟨rfl, hb⟩
    have HB3 := Lib.hid (below2 HB2.out hb)
    clear hb
    go_wp2
    go_ret
    exact ⟨rfl, HB3.out⟩
end
end Go.Proofs.Ytkodnjefdophmaa
