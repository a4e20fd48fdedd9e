/- careenlaw14: the walk of RedoApart. (By gen/genredo14c.py.) -/
import Derived.Test.YtkodnjefdophmaaRdM
import Derived.Test.YtkodnjefdophmaaUint
namespace Go.Proofs.Ytkodnjefdophmaa
open Go.RowKit

theorem pgs_apart (from_ : Int) (n : Nat) (L : List En) (l : List Hs.Pge) : (pgs14 L from_ l)[n]? = (pgs14 (L.filter fun x => decide (x.2.page = (n : Int))) from_ l)[n]? := Hs.apA.apart from_ n L l
section
set_option maxRecDepth 100000
set_option maxHeartbeats 16000000
theorem walkRedoApart (v : Value) (L : List Ent) (from_ : Int) (vs : Value) (l : List Hs.Pge) (n : Int) (w : World) (hv : IsEnts w v L ∧ ∀ x ∈ L, Sized x.2) (_ : (Lit.int .i64 from_).wf = true) (hp : PgSrc w vs l ∧ ∀ p ∈ l, p.2.size ≤ maxLen) (_ : (Lit.int .i64 n).wf = true) :
    Calls Try.prog 6 #[v, .int .i64 from_, vs, .int .i64 n] w fun e w' => e = .returned (.bool true) ∧ Below w.heap.size w w' := by
  obtain ⟨hv, hz⟩ := hv
  obtain ⟨hp, hpz⟩ := hp
  have AW := Lib.hid awake14
  by_cases h_FW : FewL L
  · skip
    by_cases h_PW : FewP l
    · skip
      have FW := Lib.hid (fun W (h : Below w.heap.size w W) => refFew (hv.keep h) hz true ⟨fun _ => h_FW, fun _ => rfl⟩)
      have PW := Lib.hid (fun W (h : Below w.heap.size w W) => few14_any (hp.1.keep h) hpz true ⟨fun _ => h_PW, fun _ => rfl⟩)
      have FWT := Lib.hid (fit_after h_FW)
      have HLM : Hid (l.length ≤ maxLen) := by show _ ≤ _; have := h_PW.1; unfold maxLen; omega
      have hLn : L.length ≤ 200 := h_FW.1
      by_cases hl0 : l.length = 0
      · have hl00 : ((l.length : Int) == 0) = true := by simp [hl0]
        have hl01 : l = [] := List.eq_nil_of_length_eq_zero hl0
        subst hl01
        obtain ⟨va, vc, rfl⟩ := IsEnts.form hv
        obtain ⟨pa, pc, rfl⟩ := hp.1.form
        clear hv hp hz hpz h_FW h_PW hl0
        go_enter Try.func6, Try.ntmps6
        go_wp2_with fail
        refine (AW.out _).mono ?_
        rintro e w1 ⟨rfl, hb⟩
        have HB1 := Lib.hid hb
        clear hb
        go_wp2_with fail
        refine (FW.out _ HB1.out).mono ?_
        rintro e w2 ⟨rfl, hb⟩
        have HB2 := Lib.hid (below2 HB1.out hb)
        clear hb
        go_wp2_with fail
        refine (PW.out _ HB2.out).mono ?_
        rintro e w3 ⟨rfl, hb⟩
        have HB3 := Lib.hid (below2 HB2.out hb)
        clear hb FW PW
        go_wp2_with fail
        refine (AW.out _).mono ?_
        rintro e w4 ⟨rfl, hb⟩
        have HB4 := Lib.hid (below2 HB3.out hb)
        clear hb
        go_wp2
        go_ret
        exact ⟨rfl, HB4.out⟩
      · have hl00 : ((l.length : Int) == 0) = false := by rw [beq_eq_false_iff_ne]; omega
        have hl01 : ¬ l = [] := fun e => hl0 (by rw [e]; rfl)
        have hl20 : l.length ≤ 20 := h_PW.1
        have hM : ∃ M : Nat, Hid (wrap64 ((IntKind.u64.wrap n).tmod (l.length : Int)) = (M : Int) ∧ M < l.length) := by
          have h3 := modN_eq n (l.length : Int) (by omega) (by omega)
          have h4 := modN_lt n (l.length : Int) (by omega)
          exact ⟨modN n (l.length : Int), h3, by omega⟩
        obtain ⟨M, hM⟩ := hM
        have PLn := Lib.hid (fun (K : List En) (from_ : Int) (q : List Hs.Pge) => pgs_len K from_ q)
        have APT := Lib.hid (pgs_apart from_ M L l)
        have H1 := Lib.hid (fun W (h : Below w.heap.size w W) => rdPages_any from_ (hv.keep h) (fit_after h_FW) (hp.1.keep h) h_PW.small.1 h_PW.small.2)
        have H2 := Lib.hid (fun W (h : Below w.heap.size w W) u K (hK : IsEnts W u K) (hs : ∀ x ∈ K, x.2.after.size ≤ maxLen) => rdPages_any from_ hK hs (hp.1.keep h) h_PW.small.1 h_PW.small.2)
        have HX : Hid (∃ va vc, v = .slice va L.length vc ∧ EntsAt w va L) := by
          obtain ⟨a2, c2, e, _, _, h3⟩ := hv
          exact ⟨_, _, e, h3⟩
        obtain ⟨va, vc, rfl, hx⟩ := HX.out
        have HX := Lib.hid hx
        obtain ⟨pa, pc, rfl⟩ := hp.1.form
        have hwu : IntKind.u64.wrap (l.length : Int) = (l.length : Int) := by rw [IntKind.wrap_u64]; omega
        obtain ⟨i0, hi0, hzz⟩ := Option.map_eq_some_iff.1 infoEnt
        simp only [Prod.mk.injEq] at hzz
        obtain ⟨hz0, hz1, hz2⟩ := hzz
        clear hv hp hz hpz h_FW h_PW hl0 hx
        go_enter Try.func6, Try.ntmps6
        go_wp2_with fail
        refine (AW.out _).mono ?_
        rintro e w1 ⟨rfl, hb⟩
        have HB1 := Lib.hid hb
        clear hb
        go_wp2_with fail
        refine (FW.out _ HB1.out).mono ?_
        rintro e w2 ⟨rfl, hb⟩
        have HB2 := Lib.hid (below2 HB1.out hb)
        clear hb
        go_wp2_with fail
        refine (PW.out _ HB2.out).mono ?_
        rintro e w3 ⟨rfl, hb⟩
        have HB3 := Lib.hid (below2 HB2.out hb)
        clear hb FW PW
        go_upto_region 4 with fail
        rw [hM.out.1]
        clear hl00 hl01 hwu
        go_wp2_with fail
        go_loopw [9, 41] (fun vo vk wr => ∃ (k : Nat) (q : List Qx), vk = .int .i64 k ∧ k ≤ L.length ∧ wr.ownsRow w.heap.size 39 12 vo q.length (qV q) ∧ q.length ≤ k ∧ q.map Qx.ent = (L.take k).filter (fun x => decide (x.2.page = (M : Int))) ∧ (∀ x ∈ q, Lists w x.r x.vt x.vp) ∧ Below w.heap.size w wr) (fun _ vk _ => L.length - (intOf vk).toNat)
        case atStart => exact ⟨0, [], rfl, Nat.zero_le _, World.ownsRow_nil _ _ _ 12, Nat.le_refl _, rfl, nofun, HB3.out⟩
        case round =>
         obtain ⟨k, q, rfl, hk, hown, hqk, hq, hql, hB⟩ := hrel
         clear HB3
         have HOW := Lib.hid hown
         have HQ := Lib.hid hq
         have HQL := Lib.hid hql
         have HB := Lib.hid hB
         clear hown hq hql hB
         by_cases hlt : k < L.length
         · have HLT := Lib.hid hlt
           have hkI : (k : Int) < L.length := by omega
           have HTK := Lib.hid (show L.take (k + 1) = L.take k ++ [L[k]] from by rw [List.take_add_one, List.getElem?_eq_getElem hlt]; rfl)
           obtain ⟨b, off, vt, vp, rfl, lt0, la, ci0⟩ := HX.out.whole k hlt
           have ci := fun i x (h : (entCells L[k].1 L[k].2 vt vp)[i]? = some x) => (HB.out.cell (p := ⟨b, off + k * 12 + i, none⟩) lt0).trans (ci0 i x h)
           have lt1 : b < wr.heap.size := Nat.lt_of_lt_of_le lt0 HB.out.size
           clear ci0 lt0
           generalize L[k] = x at *
           clear hlt
           obtain ⟨at_, r⟩ := x
           simp only at la ci
           obtain ⟨ta, tc, rfl⟩ := la.t.form
           obtain ⟨qa, qc, rfl⟩ := la.p.form
           have c0 : wr.cell? ⟨b, off + k * 12 + 0, none⟩ = _ := ci 0 _ rfl
           have c1 : wr.cell? ⟨b, off + k * 12 + 1, none⟩ = _ := ci 1 _ rfl
           have c2 : wr.cell? ⟨b, off + k * 12 + 2, none⟩ = _ := ci 2 _ rfl
           have c3 : wr.cell? ⟨b, off + k * 12 + 3, none⟩ = _ := ci 3 _ rfl
           have c4 : wr.cell? ⟨b, off + k * 12 + 4, none⟩ = _ := ci 4 _ rfl
           have c5 : wr.cell? ⟨b, off + k * 12 + 5, none⟩ = _ := ci 5 _ rfl
           have c6 : wr.cell? ⟨b, off + k * 12 + 6, none⟩ = _ := ci 6 _ rfl
           have c7 : wr.cell? ⟨b, off + k * 12 + 7, none⟩ = _ := ci 7 _ rfl
           have c8 : wr.cell? ⟨b, off + k * 12 + 8, none⟩ = _ := ci 8 _ rfl
           have c9 : wr.cell? ⟨b, off + k * 12 + 9, none⟩ = _ := ci 9 _ rfl
           have c10 : wr.cell? ⟨b, off + k * 12 + 10, none⟩ = _ := ci 10 _ rfl
           have c11 : wr.cell? ⟨b, off + k * 12 + 11, none⟩ = _ := ci 11 _ rfl
           rw [Nat.add_zero] at c0
           clear ci
           have hn := Blk.new wr 39 #[.int .i64 0, .int .i64 0, .int .i64 0, .int .i64 0, .int .i64 0, .int .i64 0, .int .i64 0, .int .i64 0, .string ⟨#[]⟩, .string ⟨#[]⟩, .slice none 0 0, .slice none 0 0]
           have N3 := hn.setRow (entCells at_ r (.slice ta r.txns.length tc) (.slice qa r.pages.length qc))
           have hb3 := below_setRow ((Below.refl wr.heap.size wr).alloc (Nat.le_refl _) (.cells #[.int .i64 0, .int .i64 0, .int .i64 0, .int .i64 0, .int .i64 0, .int .i64 0, .int .i64 0, .int .i64 0, .string ⟨#[]⟩, .string ⟨#[]⟩, .slice none 0 0, .slice none 0 0] 39)) (Nat.le_refl _) (entCells at_ r (.slice ta r.txns.length tc) (.slice qa r.pages.length qc))
           have HL3 := Lib.hid la
           have HO3 := Lib.hid (own_below HOW.out hb3)
           have HB3 := Lib.hid (below2 HB.out hb3)
           clear hb3 HB la HOW
           go_upto_region 8 with (refine wpList_store_row rfl 39 _ _ rfl wr.heap.size _ rfl rfl 39 _ hn (by kernel_rfl) rfl (by simp [entCells, Value.oneCell']) ?_)
           change Code.wp _ _ _ _ ((wr.alloc (.cells #[.int .i64 0, .int .i64 0, .int .i64 0, .int .i64 0, .int .i64 0, .int .i64 0, .int .i64 0, .int .i64 0, .string ⟨#[]⟩, .string ⟨#[]⟩, .slice none 0 0, .slice none 0 0] 39)).setRow wr.heap.size (entCells at_ r (.slice ta r.txns.length tc) (.slice qa r.pages.length qc)))
           clear hn c0 c1 c2 c3 c4 c5 c6 c7 c8 c9 c10 c11 lt1
           generalize (wr.alloc _).setRow _ _ = w9 at *
           generalize wr.heap.size = y at *
           have d3 : w9.cell? ⟨y, 3, none⟩ = some (.int .i64 r.page) := N3.cell 3
           by_cases ht : r.page = (M : Int)
           · have HT := Lib.hid ht
             go_upto_region 9 with fail
             clear ht d3
             have hw9 := HB3.out.size
             unfold entCells at N3
             go_wp2_with (first
               | (refine wpList_load_row rfl 39 _ rfl y rfl 39 _ (0, 0) _ N3 Try.underlying39 rfl (by kernel_rfl) ?_)
               | (at_builtin; refine wpList_append_own_at _ rfl (.tmp 50) (.tmp 52) 22 rfl w.heap.size 39 i0 _ 12 144 Try.underlying22 hi0 hz0 hz1 hz2 rfl (by decide) _ _ _ rfl (HO3.out.alloc _) ⟨w9.heap.size, 0, none⟩ 1 1 [.int .i64 at_, .int .i64 r.kind, .int .i64 r.txn, .int .i64 r.page, .int .i64 r.off, .int .i64 r.prev, .int .i64 r.next, .int .i64 r.beg, .string r.before, .string r.after, .slice ta r.txns.length tc, .slice qa r.pages.length qc] rfl rfl (World.news_of_block (Blk.new _ _ _)) (by simp [Value.oneCell']) (by simp only [maxLen]; omega) (by omega) (by first | omega | (simp; omega)) ?_; intro v' w6 hown' hgrow _ _; obtain ⟨g', cap', rfl, _, _⟩ := own_form hown' (by omega)))
             have hB5 : Below w9.heap.size w9 (w9.alloc (.cells #[.int .i64 at_, .int .i64 r.kind, .int .i64 r.txn, .int .i64 r.page, .int .i64 r.off, .int .i64 r.prev, .int .i64 r.next, .int .i64 r.beg, .string r.before, .string r.after, .slice ta r.txns.length tc, .slice qa r.pages.length qc] 39)) := (Below.refl _ _).alloc (Nat.le_refl _) _
             have hB6 : Below w.heap.size w w6 := (below2 HB3.out hB5).grown hgrow (by first | omega | (simp; omega)) fun j ej => (HO3.out.lt j ej).1
             refine ⟨⟨k + 1, q ++ [⟨at_, r, .slice ta r.txns.length tc, .slice qa r.pages.length qc⟩], by go_num, HLT.out, ?_, by simp; omega, ?_, ?_, hB6⟩, by simp [intOf]; have := HLT.out; omega⟩
             · rw [qV_snoc, List.length_append]
               exact hown'
             · rw [HTK.out, List.filter_append, List.map_append, ← HQ.out, List.filter_cons_of_pos (by simpa using HT.out)]
               rfl
             · intro y hy
               rcases List.mem_append.1 hy with hy | hy
               · exact HQL.out y hy
               · rw [List.mem_singleton.1 hy]; exact HL3.out
           · have HT := Lib.hid ht
             clear N3
             go_wp2_with fail
             refine ⟨⟨k + 1, q, by go_num, HLT.out, HO3.out, by omega, ?_, HQL.out, HB3.out⟩, by simp [intOf]; have := HLT.out; omega⟩
             rw [HTK.out, List.filter_append, ← HQ.out, List.filter_cons_of_neg (by simpa using HT.out)]
             simp
         · obtain rfl : k = L.length := by omega
           have hq2 := HQ.out
           rw [List.take_length] at hq2
           have HQA := Lib.hid hq2
           have HQI := Lib.hid (fun W (h : Below wr.heap.size wr W) => qEnts (own_below HOW.out h) (fun x hx => (HQL.out x hx).keep (below2 HB.out h)))
           have HQS : Hid (∀ x ∈ q.map Qx.ent, x.2.after.size ≤ maxLen) := fun x hx => by
             rw [hq2] at hx
             exact FWT.out x (List.mem_filter.1 hx).1
           obtain ⟨ra, rc, rfl⟩ := own_slice HOW.out
           clear hq2
           go_wp2_with fail
           refine (H1.out _ HB.out).mono ?_
           rintro e w5 ⟨⟨g5, rfl, hg5, hG5⟩, hb⟩
           have HB5 := Lib.hid (below2 HB.out hb)
           have C := Lib.hid (H2.out _ HB5.out _ _ (HQI.out _ hb) HQS.out)
           have HG5 := Lib.hid hG5
           clear hb hG5 hg5 H1 H2 HQI HQS HOW
           go_wp2_with fail
           refine C.out.mono ?_
           rintro e w6 ⟨⟨g6, rfl, hg6, hG6⟩, hb⟩
           have HB6 := Lib.hid (below2 HB5.out hb)
           have hG5 := HG5.out.keep hb HG5.out.lt
           rw [HQA.out] at hG6
           have hm : M < (pgs14 L from_ l).length := by rw [PLn.out]; exact hM.out.2
           have h5 : (pgs14 L from_ l)[M]? = some (pgs14 L from_ l)[M] := List.getElem?_eq_getElem hm
           have h6 := h5
           rw [APT.out] at h6
           obtain ⟨e0, e1⟩ := pgV_of h5
           obtain ⟨f0, f1⟩ := pgV_of h6
           generalize (pgs14 L from_ l)[M] = p at *
           obtain ⟨p1, p2⟩ := p
           have XC : Hid (∀ W, Below w6.drew.heap.size w6.drew W → (W.cell? ⟨g5, M * 2, none⟩ = some (.int .i64 p1) ∧ W.cell? ⟨g5, M * 2 + 1, none⟩ = some (.string p2)) ∧ W.cell? ⟨g6, M * 2, none⟩ = some (.int .i64 p1) ∧ W.cell? ⟨g6, M * 2 + 1, none⟩ = some (.string p2)) := fun W hW =>
             ⟨⟨((hG5.drew.keep hW hG5.lt).cell _).trans (by rw [List.getElem?_toArray]; exact e0), ((hG5.drew.keep hW hG5.lt).cell _).trans (by rw [List.getElem?_toArray]; exact e1)⟩, ((hG6.drew.keep hW hG6.lt).cell _).trans (by rw [List.getElem?_toArray]; exact f0), ((hG6.drew.keep hW hG6.lt).cell _).trans (by rw [List.getElem?_toArray]; exact f1)⟩
           have I1 : Hid ((M : Int) < l.length) := by show (M : Int) < l.length; have := hM.out.2; omega
           have ET : Hid ((p1 == p1 && p2.toList == p2.toList) = true) := by show _ = true; simp
           clear hb hG5 hG6 HG5 hg6 hm h5 h6 e0 e1 f0 f1 C
           go_upto_region 13 with fail
           refine' wp_region_conf 24 (.is _ :: .is _ :: .is _ :: .is _ :: .is _ :: .is _ :: .is _ :: .is _ :: .is _ :: .is _ :: .is _ :: .is _ :: .is _ :: .is _ :: .is _ :: .is _ :: .is _ :: .is _ :: .is _ :: .is _ :: .is _ :: .is _ :: .is _ :: .is _ :: []) (by kernel_rfl) (by kernel_rfl) (by kernel_rfl) (by kernel_rfl) rfl ?main
           case main =>
             iterate 15 (
               apply obs_step
               · rfl
               · intro w9 hE9 hk9
                 clear hk9 hE9
                 as_aux_lemma =>
                   go_wp2
                   refine post_eq ?_ (Below.refl _ _)
                   simp only [Act.put, List.setIfInBounds_toArray, List.set_cons_zero, List.set_cons_succ]
                   try rfl
               · simp only [Act.put, List.setIfInBounds_toArray, List.set_cons_zero, List.set_cons_succ]
                 rfl)
             iterate 1 (
               apply obs_step
               · rfl
               · intro w9 hE9 hk9
                 have i1 := I1.out
                 clear hk9 hE9
                 as_aux_lemma =>
                   go_wp2
                   refine post_eq ?_ (Below.refl _ _)
                   simp only [Act.put, List.setIfInBounds_toArray, List.set_cons_zero, List.set_cons_succ]
                   try rfl
               · simp only [Act.put, List.setIfInBounds_toArray, List.set_cons_zero, List.set_cons_succ]
                 rfl)
             iterate 1 (
               apply obs_step
               · rfl
               · intro w9 hE9 hk9
                 obtain ⟨⟨x1, x2⟩, _⟩ := XC.out w9 hE9
                 clear hk9 hE9
                 as_aux_lemma =>
                   go_wp2
                   refine post_eq ?_ (Below.refl _ _)
                   simp only [Act.put, List.setIfInBounds_toArray, List.set_cons_zero, List.set_cons_succ]
                   try rfl
               · simp only [Act.put, List.setIfInBounds_toArray, List.set_cons_zero, List.set_cons_succ]
                 rfl)
             iterate 2 (
               apply obs_step
               · rfl
               · intro w9 hE9 hk9
                 clear hk9 hE9
                 as_aux_lemma =>
                   go_wp2
                   refine post_eq ?_ (Below.refl _ _)
                   simp only [Act.put, List.setIfInBounds_toArray, List.set_cons_zero, List.set_cons_succ]
                   try rfl
               · simp only [Act.put, List.setIfInBounds_toArray, List.set_cons_zero, List.set_cons_succ]
                 rfl)
             iterate 1 (
               apply obs_step
               · rfl
               · intro w9 hE9 hk9
                 have i1 := I1.out
                 clear hk9 hE9
                 as_aux_lemma =>
                   go_wp2
                   refine post_eq ?_ (Below.refl _ _)
                   simp only [Act.put, List.setIfInBounds_toArray, List.set_cons_zero, List.set_cons_succ]
                   try rfl
               · simp only [Act.put, List.setIfInBounds_toArray, List.set_cons_zero, List.set_cons_succ]
                 rfl)
             iterate 1 (
               apply obs_step
               · rfl
               · intro w9 hE9 hk9
                 obtain ⟨_, x1, x2⟩ := XC.out w9 hE9
                 clear hk9 hE9
                 as_aux_lemma =>
                   go_wp2
                   refine post_eq ?_ (Below.refl _ _)
                   simp only [Act.put, List.setIfInBounds_toArray, List.set_cons_zero, List.set_cons_succ]
                   try rfl
               · simp only [Act.put, List.setIfInBounds_toArray, List.set_cons_zero, List.set_cons_succ]
                 rfl)
             iterate 1 (
               apply obs_step
               · rfl
               · intro w9 hE9 hk9
                 have eT := ET.out
                 clear hk9 hE9
                 as_aux_lemma =>
                   go_wp2_with (refine wp_page_eql _ _ _ rfl rfl _ _ _ _ rfl rfl ?_)
                   refine post_eq ?_ (Below.refl _ _)
                   simp only [Act.put, List.setIfInBounds_toArray, List.set_cons_zero, List.set_cons_succ]
                   try rfl
               · simp only [Act.put, List.setIfInBounds_toArray, List.set_cons_zero, List.set_cons_succ]
                 rfl)
             iterate 2 (
               apply obs_step
               · rfl
               · intro w9 hE9 hk9
                 have eT := ET.out
                 clear hk9 hE9
                 as_aux_lemma =>
                   go_wp2
                   refine post_eq ?_ (Below.refl _ _)
                   simp only [Act.put, List.setIfInBounds_toArray, List.set_cons_zero, List.set_cons_succ]
                   try rfl
               · simp only [Act.put, List.setIfInBounds_toArray, List.set_cons_zero, List.set_cons_succ]
                 rfl)
             refine obs_end fun w7 hE9 _ => ?_
             have hB9 := Lib.hid (HB6.out.drew.trans (hE9.mono HB6.out.size))
             have eT := ET.out
             clear hE9 XC
             go_wp2
             go_ret
             exact ⟨by first | rfl | simp, hB9.out⟩
    · skip
      have FW := Lib.hid (fun W (h : Below w.heap.size w W) => refFew (hv.keep h) hz true ⟨fun _ => h_FW, fun _ => rfl⟩)
      have PW := Lib.hid (fun W (h : Below w.heap.size w W) => few14_any (hp.1.keep h) hpz false ⟨fun e => absurd e (by decide), fun h => absurd h h_PW⟩)
      obtain ⟨va, vc, rfl⟩ := IsEnts.form hv
      obtain ⟨pa, pc, rfl⟩ := hp.1.form
      clear hv hp hz hpz
      go_enter Try.func6, Try.ntmps6
      go_wp2_with fail
      refine (AW.out _).mono ?_
      rintro e w1 ⟨rfl, hb⟩
      have HB1 := Lib.hid hb
      clear hb
      go_wp2_with fail
      refine (FW.out _ HB1.out).mono ?_
      rintro e w2 ⟨rfl, hb⟩
      have HB2 := Lib.hid (below2 HB1.out hb)
      clear hb
      go_wp2_with fail
      refine (PW.out _ HB2.out).mono ?_
      rintro e w3 ⟨rfl, hb⟩
      have HB3 := Lib.hid (below2 HB2.out hb)
      clear hb
      go_wp2_with fail
      refine (AW.out _).mono ?_
      rintro e w4 ⟨rfl, hb⟩
      have HB4 := Lib.hid (below2 HB3.out hb)
      clear hb
      go_wp2
      go_ret
      exact ⟨rfl, HB4.out⟩
  · skip
    have FW := Lib.hid (fun W (h : Below w.heap.size w W) => refFew (hv.keep h) hz false ⟨fun e => absurd e (by decide), fun h => absurd h h_FW⟩)
    obtain ⟨va, vc, rfl⟩ := IsEnts.form hv
    obtain ⟨pa, pc, rfl⟩ := hp.1.form
    clear hv hp hz hpz
    go_enter Try.func6, Try.ntmps6
    go_wp2_with fail
    refine (AW.out _).mono ?_
    rintro e w1 ⟨rfl, hb⟩
    have HB1 := Lib.hid hb
    clear hb
    go_wp2_with fail
    refine (FW.out _ HB1.out).mono ?_
    rintro e w2 ⟨rfl, hb⟩
    have HB2 := Lib.hid (below2 HB1.out hb)
    clear hb
    go_wp2_with fail
    refine (AW.out _).mono ?_
    rintro e w3 ⟨rfl, hb⟩
    have HB3 := Lib.hid (below2 HB2.out hb)
    clear hb
    go_wp2
    go_ret
    exact ⟨rfl, HB3.out⟩
end
end Go.Proofs.Ytkodnjefdophmaa
