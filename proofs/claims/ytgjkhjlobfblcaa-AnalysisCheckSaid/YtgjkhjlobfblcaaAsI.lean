/- The walk of AnalysisCheck. -/
import Derived.Test.YtgjkhjlobfblcaaAsH
import Derived.Test.YtgjkhjlobfblcaaChM0
import Derived.Test.YtgjkhjlobfblcaaUint
import Derived.Test.YtgjkhjlobfblcaaOpenEnts
namespace Go.Proofs.Ytgjkhjlobfblcaa
open Go.RowKit
set_option linter.unusedSimpArgs false
set_option linter.unusedVariables false

def ownB (x : En) : Bool := decide (1 ≤ x.2.kind) && decide (x.2.kind ≤ 4)
theorem ownB_yes {x : En} (h1 : 1 ≤ x.2.kind) (h2 : x.2.kind ≤ 4) : ownB x = true := by unfold ownB; simp [h1, h2]
theorem ownB_no {x : En} (h : ¬ (1 ≤ x.2.kind ∧ x.2.kind ≤ 4)) : ownB x = false := by
  unfold ownB
  by_cases h1 : 1 ≤ x.2.kind
  · have h2 : ¬ x.2.kind ≤ 4 := fun h2 => h ⟨h1, h2⟩
    simp [h2]
  · simp [h1]
/-- All records have few rows. -/
def Few13 (rs : List Rc) : Prop := rs.length ≤ 190 ∧ ∀ r ∈ rs, r.txns.length ≤ 3200 ∧ r.pages.length ≤ 3200
theorem few_keys {rs : List Rc} (h : Few13 rs) : (An.keysT (An.place 0 rs)).length ≤ 1000000 ∧ (An.keysP (An.place 0 rs)).length ≤ 1000000 := by
  have h1 := An.keysT_len 3200 (An.place 0 rs) fun x hx => (h.2 _ (An.place_mem hx).1).1
  have h2 := An.keysP_len 3200 (An.place 0 rs) fun x hx => (h.2 _ (An.place_mem hx).1).2
  rw [An.place_len] at h1 h2
  have := h.1
  constructor <;> omega
/-- Own records have few rows at most; so has what their tables tell. -/
theorem few_small {own : List Rc} (hn : own.length ≤ 60) (ho : ∀ r ∈ own, r.txns.length ≤ 50 ∧ r.pages.length ≤ 50) {b e : Nat} {T : List Row3} {P : List Row2}
    (hT : An.TellsT (An.run 0 (An.place 0 (own.take b ++ An.bgR :: (own.take e).drop b))).t T) (hP : An.TellsP (An.run 0 (An.place 0 (own.take b ++ An.bgR :: (own.take e).drop b))).p P) : T.length ≤ 3200 ∧ P.length ≤ 3200 := by
  have hm : ∀ r ∈ own.take b ++ An.bgR :: (own.take e).drop b, r.txns.length ≤ 50 ∧ r.pages.length ≤ 50 := fun r hr => by
    rcases List.mem_append.1 hr with h | h
    · exact ho r (List.mem_of_mem_take h)
    · rcases List.mem_cons.1 h with rfl | h
      · exact ⟨Nat.zero_le _, Nat.zero_le _⟩
      · exact ho r (List.mem_of_mem_take (List.mem_of_mem_drop h))
  have hl : (own.take b ++ An.bgR :: (own.take e).drop b).length ≤ 62 := by
    have h1 : (own.take b).length + ((own.take e).drop b).length ≤ own.length := by rw [List.length_drop, List.length_take, List.length_take]; omega
    rw [List.length_append, List.length_cons]
    omega
  have h1 := An.tellsT_len hT
  have h2 := An.tellsP_len hP
  have h3 := An.keysT_len 50 (An.place 0 (own.take b ++ An.bgR :: (own.take e).drop b)) fun x hx => (hm _ (An.place_mem hx).1).1
  have h4 := An.keysP_len 50 (An.place 0 (own.take b ++ An.bgR :: (own.take e).drop b)) fun x hx => (hm _ (An.place_mem hx).1).2
  rw [An.place_len] at h3 h4
  constructor <;> omega
theorem few_recs {own : List Rc} (hn : own.length ≤ 60) (ho : ∀ r ∈ own, r.txns.length ≤ 50 ∧ r.pages.length ≤ 50) {b e : Nat} {tab : Rc} (ht : tab.txns.length ≤ 3200 ∧ tab.pages.length ≤ 3200) {i : Nat} (hi : i ≤ 61) : Few13 (An.recs own b e tab i) :=
  ⟨Nat.le_trans (An.recs_len i) (by omega), fun r hr => by
    rcases An.recs_mem hr with rfl | rfl | h
    · exact ⟨Nat.zero_le _, Nat.zero_le _⟩
    · exact ht
    · have := ho r h
      omega⟩
theorem few_app {rs : List Rc} {x : Rc} (h : rs.length ≤ 183 ∧ ∀ r ∈ rs, r.txns.length ≤ 3200 ∧ r.pages.length ≤ 3200) (hx : x.txns.length ≤ 3200 ∧ x.pages.length ≤ 3200) : (rs ++ [x]).length ≤ 184 ∧ ∀ r ∈ rs ++ [x], r.txns.length ≤ 3200 ∧ r.pages.length ≤ 3200 :=
  ⟨by rw [List.length_append, List.length_singleton]; omega, fun r hr => (List.mem_append.1 hr).elim (h.2 r) fun h => by rw [List.mem_singleton.1 h]; exact hx⟩

set_option maxRecDepth 100000 in
set_option maxHeartbeats 64000000 in
theorem walkAnalysisCheck (v : Value) (l : List Ent) (bn en : Int) (w : World) (hv : IsEnts w v l ∧ ∀ x ∈ l, Sized x.2) (_ : (Lit.int .i64 bn).wf = true) (_ : (Lit.int .i64 en).wf = true) :
    Calls Try.prog 3 #[v, .int .i64 bn, .int .i64 en] w fun e w' => e = .returned (.bool true) ∧ Below w.heap.size w w' := by
  obtain ⟨hv, hz⟩ := hv
  have HV := Lib.hid hv
  obtain ⟨va, vc, rfl, hvc, _, hx⟩ := hv
  have HX := Lib.hid hx
  have AW := Lib.hid (awake13 w)
  by_cases hf : FewL l
  · have HF := Lib.hid hf
    have hn : l.length ≤ 200 := hf.1
    have FW := Lib.hid (fun (W : World) (h : IsEnts W (.slice va l.length vc) l) => refFew h hz true ⟨fun _ => hf, fun _ => rfl⟩)
    clear hz hf hx
    go_enter Try.func3, Try.ntmps3
    go_wp2_with fail
    refine AW.out.mono ?_
    rintro e w1 ⟨rfl, hb⟩
    have H1 := Lib.hid (HV.out.keep hb)
    have HB1 := Lib.hid hb
    clear hb AW
    go_wp2_with fail
    refine (FW.out _ H1.out).mono ?_
    rintro e w2 ⟨rfl, hb⟩
    have H2 := Lib.hid (H1.out.keep hb)
    have HB2 := Lib.hid (below2 HB1.out hb)
    clear hb FW H1 HB1
    by_cases h60 : l.length ≤ 60
    · have h60b : decide (60 < (l.length : Int)) = false := by rw [decide_eq_false_iff_not]; omega
      obtain ⟨i0, hi, hz⟩ := Option.map_eq_some_iff.1 infoEnt
      simp only [Prod.mk.injEq] at hz
      obtain ⟨hz0, hz1, hz2⟩ := hz
      go_wp2_with fail
      go_loopw [7, 38] (fun vo vk wr => ∃ (k : Nat) (q : List Qx), vk = .int .i64 k ∧ k ≤ l.length ∧ wr.ownsRow w.heap.size 30 12 vo q.length (qV q) ∧ q.length ≤ k ∧ q.map (·.r) = ((l.take k).filter ownB).map (·.2) ∧ (∀ x ∈ q, Lists w x.r x.vt x.vp) ∧ Below w.heap.size w wr) (fun _ vk _ => l.length - (intOf vk).toNat)
      case atStart => exact ⟨0, [], rfl, Nat.zero_le _, World.ownsRow_nil _ _ _ 12, Nat.le_refl _, rfl, nofun, HB2.out⟩
      case round =>
        obtain ⟨k, q, rfl, hk, hown, hqk, hq, hql, hB⟩ := hrel
        have HOW := Lib.hid hown
        have HQ := Lib.hid hq
        have HQL := Lib.hid hql
        have HB := Lib.hid hB
        clear hown hq hql hB
        by_cases hlt : k < l.length
        · have hwz := HB.out.size
          obtain ⟨b, off, vt, vp, rfl, lt1, la, ci⟩ := HX.out.whole k hlt
          obtain ⟨x, hxx⟩ : ∃ x, x = l[k].1 := ⟨_, rfl⟩
          obtain ⟨r, hrr⟩ : ∃ r, r = l[k].2 := ⟨_, rfl⟩
          rw [← hxx, ← hrr] at ci
          rw [← hrr] at la
          have HXR := Lib.hid (show l[k] = (x, r) from Prod.ext hxx.symm hrr.symm)
          have HTK := Lib.hid (show l.take (k + 1) = l.take k ++ [l[k]] from by rw [List.take_add_one, List.getElem?_eq_getElem hlt]; rfl)
          have HLA := Lib.hid la
          obtain ⟨ta, tc, e1⟩ := la.t.form
          obtain ⟨pa, pc, e2⟩ := la.p.form
          subst e1 e2
          have cc : ∀ i u, (entCells x r (.slice ta r.txns.length tc) (.slice pa r.pages.length pc))[i]? = some u → wr.cell? ⟨b, off + k * 12 + i, none⟩ = some u := fun i u h => (HB.out.cell (p := ⟨b, off + k * 12 + i, none⟩) lt1).trans (ci i u h)
          have c0 : wr.cell? ⟨b, off + k * 12, none⟩ = _ := cc 0 _ rfl
          have c1 := cc 1 _ rfl
          have c2 := cc 2 _ rfl
          have c3 := cc 3 _ rfl
          have c4 := cc 4 _ rfl
          have c5 := cc 5 _ rfl
          have c6 := cc 6 _ rfl
          have c7 := cc 7 _ rfl
          have c8 := cc 8 _ rfl
          have c9 := cc 9 _ rfl
          have c10 := cc 10 _ rfl
          have c11 := cc 11 _ rfl
          simp only [entCells, List.getElem_toArray, List.getElem_cons_zero, List.getElem_cons_succ] at c0 c1 c2 c3 c4 c5 c6 c7 c8 c9 c10 c11
          clear cc ci la hxx hrr lt1
          by_cases h1 : 1 ≤ r.kind
          · by_cases h2 : r.kind ≤ 4
            · have HT := Lib.hid (ownB_yes (x := (x, r)) h1 h2)
              go_upto_region 8 with fail
              obtain ⟨X, hX⟩ : ∃ X : Array Value, X = #[.int .i64 x, .int .i64 r.kind, .int .i64 r.txn, .int .i64 r.page, .int .i64 r.off, .int .i64 r.prev, .int .i64 r.next, .int .i64 r.beg, .string r.before, .string r.after, .slice ta r.txns.length tc, .slice pa r.pages.length pc] := ⟨_, rfl⟩
              rw [← hX]
              have xb := Blk.new wr 30 X
              have bx : Below w.heap.size w (wr.alloc (.cells X 30)) := HB.out.alloc hwz _
              have ox := HOW.out.alloc (.cells X 30)
              generalize hwx : wr.alloc (.cells X 30) = wx at *
              clear hwx c0 c1 c2 c3 c4 c5 c6 c7 c8 c9 c10 c11
              rw [hX] at xb
              have d0 := xb.cell 0
              have d1 := xb.cell 1
              have d2 := xb.cell 2
              have d3 := xb.cell 3
              have d4 := xb.cell 4
              have d5 := xb.cell 5
              have d6 := xb.cell 6
              have d7 := xb.cell 7
              have d8 := xb.cell 8
              have d9 := xb.cell 9
              have d10 := xb.cell 10
              have d11 := xb.cell 11
              simp only [List.getElem?_toArray, List.getElem?_cons_zero, List.getElem?_cons_succ] at d0 d1 d2 d3 d4 d5 d6 d7 d8 d9 d10 d11
              have OX := Lib.hid ox
              have BX := Lib.hid bx
              have wxz := bx.size
              rw [hX]
              clear hX xb ox bx
              obtain ⟨at_, hat⟩ : ∃ at_ : Int, 128 + 10 * (k : Int) = at_ := ⟨_, rfl⟩
              go_wp2_with (at_builtin; refine wpList_append_own_at _ rfl (.tmp 53) (.tmp 60) 22 rfl w.heap.size 30 i0 _ 12 144 Try.underlying22 hi hz0 hz1 hz2 rfl (by decide) _ _ _ rfl (OX.out.alloc _) ⟨wx.heap.size, 0, none⟩ 1 1 [.int .i64 at_, .int .i64 r.kind, .int .i64 r.txn, .int .i64 r.page, .int .i64 r.off, .int .i64 r.prev, .int .i64 r.next, .int .i64 r.beg, .string r.before, .string r.after, .slice ta r.txns.length tc, .slice pa r.pages.length pc] rfl rfl (World.news_of_block (Blk.new _ _ _)) (by simp [Value.oneCell']) (by simp only [maxLen]; omega) (by omega) (by simp; omega) ?_; intro v' w6 hown' hgrow _ _; obtain ⟨g', cap', rfl⟩ := ownsRow_succ hown')
              have hB6 : Below w.heap.size w w6 := (BX.out.alloc wxz _).grown hgrow (by simp; omega) fun j ej => (OX.out.lt j ej).1
              refine ⟨⟨k + 1, q ++ [⟨at_, r, .slice ta r.txns.length tc, .slice pa r.pages.length pc⟩], by simp, hlt, ?_, by simp; omega, ?_, ?_, hB6⟩, by simp [intOf]; omega⟩
              · rw [qV_snoc, List.length_append]
                exact hown'
              · have h1 := HQ.out
                rw [HTK.out, List.filter_append, List.map_append, List.map_append, ← h1, HXR.out, List.filter_cons_of_pos HT.out]
                rfl
              · intro y hy
                rcases List.mem_append.1 hy with hy | hy
                · exact HQL.out y hy
                · rw [List.mem_singleton.1 hy]; exact HLA.out
            · have HT := Lib.hid (ownB_no (x := (x, r)) fun h => h2 h.2)
              go_wp2_with fail
              refine ⟨⟨k + 1, q, by simp, hlt, HOW.out.alloc _, by omega, ?_, HQL.out, HB.out.alloc hwz _⟩, by simp [intOf]; omega⟩
              have h1 := HQ.out
              rw [HTK.out, List.filter_append, List.map_append, ← h1, HXR.out, List.filter_cons_of_neg (by rw [HT.out]; decide)]
              simp
          · have HT := Lib.hid (ownB_no (x := (x, r)) fun h => h1 h.1)
            go_wp2_with fail
            refine ⟨⟨k + 1, q, by simp, hlt, HOW.out.alloc _, by omega, ?_, HQL.out, HB.out.alloc hwz _⟩, by simp [intOf]; omega⟩
            have h1 := HQ.out
            rw [HTK.out, List.filter_append, List.map_append, ← h1, HXR.out, List.filter_cons_of_neg (by rw [HT.out]; decide)]
            simp
        · obtain rfl : k = l.length := by omega
          clear hlt
          have HE1 := Lib.hid (qEnts HOW.out (fun x hx => (HQL.out x hx).keep HB.out))
          have HQW := Lib.hid (fun x hx => (HQL.out x hx).keep HB.out)
          have hq2 := HQ.out
          rw [List.take_length] at hq2
          obtain ⟨own, hown⟩ : ∃ own, own = q.map (·.r) := ⟨_, rfl⟩
          have HOR : Hid (∀ r ∈ own, An.OwnR r ∧ r.txns.length ≤ 50 ∧ r.pages.length ≤ 50) := fun r hr => by
            rw [hown, hq2] at hr
            obtain ⟨x, hx, rfl⟩ := List.mem_map.1 hr
            obtain ⟨hxl, hxo⟩ := List.mem_filter.1 hx
            unfold ownB at hxo
            simp only [Bool.and_eq_true, decide_eq_true_eq] at hxo
            have := HF.out.2 x hxl
            exact ⟨by unfold An.OwnR; omega, this.txns, this.pages⟩
          have hnl : own.length = q.length := by rw [hown, List.length_map]
          obtain ⟨n, hn'⟩ : ∃ n, q.length = n := ⟨_, rfl⟩
          have hn60 : n ≤ 60 := by omega
          obtain ⟨oa, oc, ho⟩ := own_slice HOW.out
          subst ho
          rw [hn'] at hnl ⊢
          have HOWN := Lib.hid hown
          have HNL := Lib.hid hnl
          have HN' := Lib.hid hn'
          clear hq2 hown hnl hn' HQ HQL hi hz0 hz1 hz2 hn hk hqk HOW
          obtain ⟨m, hm⟩ : ∃ m : Int, (n : Int) + 1 = m := ⟨_, rfl⟩
          have hm1 : 0 < m := by omega
          have hm2 : m ≤ 61 := by omega
          have hmu : IntKind.u64.wrap m = m := by simp [IntKind.wrap, IntKind.bits, IntKind.signed]; omega
          have hb0 := modN_eq bn m (by omega) (by omega)
          have hb1 := modN_lt bn m (by omega)
          generalize modN bn m = b at *
          have hbn : b ≤ n := by omega
          clear hb1
          go_upto_region 11 with fail
          rw [hb0]
          clear hb0 hmu hm1 hm2 hm
          obtain ⟨k2, hk2⟩ : ∃ k2 : Int, (n : Int) - (b : Int) = k2 := ⟨_, rfl⟩
          obtain ⟨m2, hm2⟩ : ∃ m2 : Int, k2 + 1 = m2 := ⟨_, rfl⟩
          have hk20 : 0 ≤ k2 := by omega
          have hk21 : k2 ≤ 60 := by omega
          have hm1 : 0 < m2 := by omega
          have hm3 : m2 ≤ 61 := by omega
          have hmu : IntKind.u64.wrap m2 = m2 := by simp [IntKind.wrap, IntKind.bits, IntKind.signed]; omega
          have he0 := modN_eq en m2 (by omega) (by omega)
          have he1 := modN_lt en m2 (by omega)
          generalize modN en m2 = d at *
          have hdn : b + d ≤ n := by omega
          clear he1
          go_upto_region 12 with fail
          rw [he0, show (b : Int) + (d : Int) = ((b + d : Nat) : Int) from by omega]
          clear he0 hmu hm1 hm3 hm2 hk20 hk21 hk2
          have hbe : b ≤ b + d := Nat.le_add_right _ _
          generalize b + d = e at *
          have hwo : ∃ wo, wo = wr := ⟨_, rfl⟩
          obtain ⟨wo, rfl⟩ := hwo
          have HBO := HB
          have S0 := Wr13.start wo
          go_upto_region 13 with fail
          generalize wo.alloc (Obj.cells #[.slice none 0 0] 22) = w3 at *
          obtain ⟨gl, hgl⟩ : ∃ gl, wo.heap.size = gl := ⟨_, rfl⟩
          rw [hgl] at S0 ⊢
          have HS0 := Lib.hid S0
          have HGL := Lib.hid hgl
          clear S0 hgl HB
          have FO : Hid (∀ r ∈ own, r.txns.length ≤ 50 ∧ r.pages.length ≤ 50) := fun r hr => (HOR.out r hr).2
          have FRS : Hid (∀ (T : List Row3) (P : List Row2) (i : Nat), i ≤ 61 → (e < i → An.TellsT (An.run 0 (An.place 0 (own.take b ++ An.bgR :: (own.take e).drop b))).t T ∧ An.TellsP (An.run 0 (An.place 0 (own.take b ++ An.bgR :: (own.take e).drop b))).p P) → Few13 (An.recs own b e (An.tbR (128 + 10 * (b : Int)) T P) i)) := fun T P i hi h => by
            by_cases hei : e < i
            · exact few_recs (by rw [HNL.out]; exact hn60) FO.out (few_small (by rw [HNL.out]; exact hn60) FO.out (h hei).1 (h hei).2) hi
            · rw [An.recs_tab (An.tbR (128 + 10 * (b : Int)) T P) (An.tbR (128 + 10 * (b : Int)) [] []) i (by omega)]
              exact few_recs (by rw [HNL.out]; exact hn60) FO.out ⟨Nat.zero_le _, Nat.zero_le _⟩ hi
          go_wp2_with fail
          go_loopw [12, 13] (fun vc vi wr => ∃ (i : Nat) (c : Int) (T : List Row3) (P : List Row2), vi = .int .i64 i ∧ vc = .int .i64 c ∧ i ≤ n + 1 ∧ Wr13 wo gl wr (An.recs own b e (An.tbR (128 + 10 * (b : Int)) T P) i) ∧ (b < i → c = 128 + 10 * (b : Int)) ∧
            (e < i → An.TellsT (An.run 0 (An.place 0 (own.take b ++ An.bgR :: (own.take e).drop b))).t T ∧ An.TellsP (An.run 0 (An.place 0 (own.take b ++ An.bgR :: (own.take e).drop b))).p P)) (fun _ vi _ => n + 1 - (intOf vi).toNat)
          case atStart => exact ⟨0, 0, [], [], rfl, rfl, Nat.zero_le _, HS0.out, fun h => by omega, fun h => by omega⟩
          case round =>
            obtain ⟨i, c, T, P, rfl, rfl, hi, hW, hc, hTP⟩ := hrel
            have HW0 := Lib.hid hW
            have HC0 := Lib.hid hc
            have HTP := Lib.hid hTP
            clear hW hc hTP HS0
            by_cases hin : i ≤ n
            · have FI := Lib.hid (FRS.out T P i (by omega) HTP.out)
              by_cases hib : i = b
              · obtain rfl : i = b := hib
                by_cases hie : i = e
                · obtain rfl : i = e := hie
                  by_cases hlt : i < n
                  · have hlen : (An.recs own i i (An.tbR (128 + 10 * (i : Int)) T P) i).length = i := by rw [An.recs_lo (by omega) i (Nat.le_refl _), List.length_take, HNL.out]; omega
                    have PA : Hid (Calls Try.prog 7 #[.agg #[.int .i64 5, .int .i64 0, .int .i64 0, .int .i64 0, .int .i64 0, .int .i64 0, .int .i64 0, .string ⟨#[]⟩, .string ⟨#[]⟩, .slice none 0 0, .slice none 0 0], .pointer (some ⟨gl, 0, none⟩)] wr fun ez w' => ez = .returned (.int .i64 (128 + 10 * (i : Int))) ∧ Wr13 wo gl w' ((An.recs own i i (An.tbR (128 + 10 * (i : Int)) T P) i) ++ [An.bgR])) := by
                      have h := HW0.out.put An.bgR (.slice none 0 0) (.slice none 0 0) (Lists.nil wo An.bgR rfl rfl) (by rw [hlen]; omega)
                      rw [hlen] at h
                      exact h
                    clear hlen
                    go_wp2_with fail
                    refine PA.out.mono ?_
                    clear PA
                    rintro e' w4 ⟨rfl, hA⟩
                    have HWA := Lib.hid hA
                    clear hA
                    have hat := An.recs_at (own := own) (b := i) (e := i) (tab := (An.tbR (128 + 10 * (i : Int)) T P)) (by omega) (by rw [HNL.out]; omega)
                    rw [if_pos rfl] at hat
                    have F1 : ((An.recs own i i (An.tbR (128 + 10 * (i : Int)) T P) i) ++ [An.bgR]).length ≤ 184 ∧ ∀ r ∈ ((An.recs own i i (An.tbR (128 + 10 * (i : Int)) T P) i) ++ [An.bgR]), r.txns.length ≤ 3200 ∧ r.pages.length ≤ 3200 := few_app ⟨Nat.le_trans (An.recs_len i) (by omega), FI.out.2⟩ ⟨Nat.zero_le _, Nat.zero_le _⟩
                    obtain ⟨R1, hR1⟩ : ∃ R1, ((An.recs own i i (An.tbR (128 + 10 * (i : Int)) T P) i) ++ [An.bgR]) = R1 := ⟨_, rfl⟩
                    rw [hR1] at hat F1
                    have HW1 : Hid (Wr13 wo gl w4 R1) := by rw [Hid, ← hR1]; exact HWA.out
                    have HR1 := Lib.hid hR1
                    clear hR1 HWA
                    have hF1 := F1.1
                    obtain ⟨za, zc, zc0, hze⟩ := HW1.out.look
                    have TT := Lib.hid (asTables hze 0 (by rw [An.place_len]; omega) (few_keys ⟨by omega, F1.2⟩))
                    have F1H := Lib.hid F1
                    have HAT := Lib.hid hat
                    clear F1
                    obtain ⟨LR, hLR⟩ : ∃ LR, R1.length = LR := ⟨_, rfl⟩
                    rw [hLR] at zc0 TT hF1
                    have HLR := Lib.hid hLR
                    clear hLR hF1
                    clear hze hat
                    go_wp2_with fail
                    refine TT.out.mono ?_
                    clear TT
                    rintro e' w5 ⟨hb5, ⟨hbad, _⟩ | ⟨_, vt, vp, T', P', rfl, t1, p1, t2, p2, fr⟩⟩
                    · exact absurd (show An.tablesE _ 0 = 0 from by unfold An.tablesE; rw [if_pos (An.place_rises _ _), if_pos (.inl rfl)]) hbad
                    have PB0 := HW1.out.putAny hb5 (An.tbR (128 + 10 * (i : Int)) T' P') vt vp (.inr ⟨⟨t2, p2⟩, fr⟩) (by have := F1H.out.1; omega)
                    have HT1 := Lib.hid t1
                    have HP1 := Lib.hid p1
                    obtain ⟨ta, tc, rfl⟩ := t2.form
                    obtain ⟨pa, pc, rfl⟩ := p2.form
                    have PB : Hid (Calls Try.prog 7 #[.agg #[.int .i64 6, .int .i64 0, .int .i64 0, .int .i64 0, .int .i64 0, .int .i64 0, .int .i64 (128 + 10 * (i : Int)), .string ⟨#[]⟩, .string ⟨#[]⟩, .slice ta T'.length tc, .slice pa P'.length pc], .pointer (some ⟨gl, 0, none⟩)] w5 fun ez w' => (∃ x, ez = .returned (.int .i64 x)) ∧ Wr13 wo gl w' (R1 ++ [An.tbR (128 + 10 * (i : Int)) T' P'])) := by
                      skip
                      exact PB0.mono fun e w' h => ⟨⟨_, h.1⟩, h.2⟩
                    clear PB0 t1 p1 t2 p2 fr hb5 zc0
                    go_wp2_with fail
                    refine PB.out.mono ?_
                    clear PB
                    rintro e' w6 ⟨⟨zx, rfl⟩, hB⟩
                    have HWB := Lib.hid hB
                    clear hB
                    have hqi : i < q.length := by rw [HN'.out]; omega
                    obtain ⟨eb, eo, et, ep, he0, elt, ela, eci⟩ : ∃ b off vt vp, oa = some ⟨b, off, none⟩ ∧ b < wo.heap.size ∧ Lists wo q[i].r vt vp ∧ ∀ k x, (entCells q[i].at_ q[i].r vt vp)[k]? = some x → wo.cell? ⟨b, off + i * 12 + k, none⟩ = some x := by
                      obtain ⟨a, cap, hv0, _, _, hx⟩ := HE1.out
                      obtain ⟨rfl, _, rfl⟩ := Value.slice.inj hv0
                      obtain ⟨b, off, vt, vp, h1, h2, h3, h4⟩ := hx.whole i (by rw [List.length_map]; exact hqi)
                      rw [List.getElem_map] at h3 h4
                      exact ⟨b, off, vt, vp, h1, h2, h3, h4⟩
                    subst he0
                    obtain ⟨r, hr⟩ : ∃ r, r = q[i].r := ⟨_, rfl⟩
                    obtain ⟨ra, hra⟩ : ∃ ra, ra = q[i].at_ := ⟨_, rfl⟩
                    have HRI : Hid (own[i]? = some r) := by
                      rw [Hid, HOWN.out, List.getElem?_map, List.getElem?_eq_getElem hqi, hr]; rfl
                    rw [← hr, ← hra] at eci
                    rw [← hr] at ela
                    have hbw := HWB.out.below
                    have PC := Lib.hid (HWB.out.put r et ep ela (by have := F1H.out.1; rw [List.length_append, List.length_singleton]; omega))
                    obtain ⟨ta', tc', rfl⟩ := ela.t.form
                    obtain ⟨pa', pc', rfl⟩ := ela.p.form
                    have ecc : ∀ k x, (entCells ra r (.slice ta' r.txns.length tc') (.slice pa' r.pages.length pc'))[k]? = some x → w6.cell? ⟨eb, eo + i * 12 + k, none⟩ = some x := fun k x h => (hbw.cell (p := ⟨eb, eo + i * 12 + k, none⟩) elt).trans (eci k x h)
                    have c1 : w6.cell? ⟨eb, eo + i * 12 + 1, none⟩ = some (.int .i64 r.kind) := ecc 1 _ rfl
                    have c2 : w6.cell? ⟨eb, eo + i * 12 + 1 + 1, none⟩ = some (.int .i64 r.txn) := ecc 2 _ rfl
                    have c3 : w6.cell? ⟨eb, eo + i * 12 + 1 + 2, none⟩ = some (.int .i64 r.page) := ecc 3 _ rfl
                    have c4 : w6.cell? ⟨eb, eo + i * 12 + 1 + 3, none⟩ = some (.int .i64 r.off) := ecc 4 _ rfl
                    have c5 : w6.cell? ⟨eb, eo + i * 12 + 1 + 4, none⟩ = some (.int .i64 r.prev) := ecc 5 _ rfl
                    have c6 : w6.cell? ⟨eb, eo + i * 12 + 1 + 5, none⟩ = some (.int .i64 r.next) := ecc 6 _ rfl
                    have c7 : w6.cell? ⟨eb, eo + i * 12 + 1 + 6, none⟩ = some (.int .i64 r.beg) := ecc 7 _ rfl
                    have c8 : w6.cell? ⟨eb, eo + i * 12 + 1 + 7, none⟩ = some (.string r.before) := ecc 8 _ rfl
                    have c9 : w6.cell? ⟨eb, eo + i * 12 + 1 + 8, none⟩ = some (.string r.after) := ecc 9 _ rfl
                    have c10 : w6.cell? ⟨eb, eo + i * 12 + 1 + 9, none⟩ = some (.slice ta' r.txns.length tc') := ecc 10 _ rfl
                    have c11 : w6.cell? ⟨eb, eo + i * 12 + 1 + 10, none⟩ = some (.slice pa' r.pages.length pc') := ecc 11 _ rfl
                    unfold recV recCells at PC
                    clear ecc eci ela hr hra hbw hqi elt
                    go_wp2_with fail
                    refine PC.out.mono ?_
                    clear PC
                    rintro e' w7 ⟨rfl, hC⟩
                    have HWC := Lib.hid hC
                    clear hC c1 c2 c3 c4 c5 c6 c7 c8 c9 c10 c11
                    go_wp2
                    refine ⟨⟨i + 1, (128 + 10 * (i : Int)), T', P', by simp, rfl, by omega, ?_, fun h => rfl, fun h => ?_⟩, by simp [intOf]; omega⟩
                    · have h := HWC.out
                      rw [← HR1.out] at h
                      rw [An.recs_succ]; rw [An.recs_tab (An.tbR (128 + 10 * (i : Int)) T' P') (An.tbR (128 + 10 * (i : Int)) T P) i (by omega)]
                      unfold An.piece
                      rw [if_pos rfl, if_pos rfl, HRI.out]
                      simpa using h
                    · have h1 := HT1.out
                      have h2 := HP1.out
                      rw [HAT.out] at h1 h2
                      exact ⟨h1, h2⟩
                  · have hlen : (An.recs own i i (An.tbR (128 + 10 * (i : Int)) T P) i).length = i := by rw [An.recs_lo (by omega) i (Nat.le_refl _), List.length_take, HNL.out]; omega
                    have PA : Hid (Calls Try.prog 7 #[.agg #[.int .i64 5, .int .i64 0, .int .i64 0, .int .i64 0, .int .i64 0, .int .i64 0, .int .i64 0, .string ⟨#[]⟩, .string ⟨#[]⟩, .slice none 0 0, .slice none 0 0], .pointer (some ⟨gl, 0, none⟩)] wr fun ez w' => ez = .returned (.int .i64 (128 + 10 * (i : Int))) ∧ Wr13 wo gl w' ((An.recs own i i (An.tbR (128 + 10 * (i : Int)) T P) i) ++ [An.bgR])) := by
                      have h := HW0.out.put An.bgR (.slice none 0 0) (.slice none 0 0) (Lists.nil wo An.bgR rfl rfl) (by rw [hlen]; omega)
                      rw [hlen] at h
                      exact h
                    clear hlen
                    go_wp2_with fail
                    refine PA.out.mono ?_
                    clear PA
                    rintro e' w4 ⟨rfl, hA⟩
                    have HWA := Lib.hid hA
                    clear hA
                    have hat := An.recs_at (own := own) (b := i) (e := i) (tab := (An.tbR (128 + 10 * (i : Int)) T P)) (by omega) (by rw [HNL.out]; omega)
                    rw [if_pos rfl] at hat
                    have F1 : ((An.recs own i i (An.tbR (128 + 10 * (i : Int)) T P) i) ++ [An.bgR]).length ≤ 184 ∧ ∀ r ∈ ((An.recs own i i (An.tbR (128 + 10 * (i : Int)) T P) i) ++ [An.bgR]), r.txns.length ≤ 3200 ∧ r.pages.length ≤ 3200 := few_app ⟨Nat.le_trans (An.recs_len i) (by omega), FI.out.2⟩ ⟨Nat.zero_le _, Nat.zero_le _⟩
                    obtain ⟨R1, hR1⟩ : ∃ R1, ((An.recs own i i (An.tbR (128 + 10 * (i : Int)) T P) i) ++ [An.bgR]) = R1 := ⟨_, rfl⟩
                    rw [hR1] at hat F1
                    have HW1 : Hid (Wr13 wo gl w4 R1) := by rw [Hid, ← hR1]; exact HWA.out
                    have HR1 := Lib.hid hR1
                    clear hR1 HWA
                    have hF1 := F1.1
                    obtain ⟨za, zc, zc0, hze⟩ := HW1.out.look
                    have TT := Lib.hid (asTables hze 0 (by rw [An.place_len]; omega) (few_keys ⟨by omega, F1.2⟩))
                    have F1H := Lib.hid F1
                    have HAT := Lib.hid hat
                    clear F1
                    obtain ⟨LR, hLR⟩ : ∃ LR, R1.length = LR := ⟨_, rfl⟩
                    rw [hLR] at zc0 TT hF1
                    have HLR := Lib.hid hLR
                    clear hLR hF1
                    clear hze hat
                    go_wp2_with fail
                    refine TT.out.mono ?_
                    clear TT
                    rintro e' w5 ⟨hb5, ⟨hbad, _⟩ | ⟨_, vt, vp, T', P', rfl, t1, p1, t2, p2, fr⟩⟩
                    · exact absurd (show An.tablesE _ 0 = 0 from by unfold An.tablesE; rw [if_pos (An.place_rises _ _), if_pos (.inl rfl)]) hbad
                    have PB0 := HW1.out.putAny hb5 (An.tbR (128 + 10 * (i : Int)) T' P') vt vp (.inr ⟨⟨t2, p2⟩, fr⟩) (by have := F1H.out.1; omega)
                    have HT1 := Lib.hid t1
                    have HP1 := Lib.hid p1
                    obtain ⟨ta, tc, rfl⟩ := t2.form
                    obtain ⟨pa, pc, rfl⟩ := p2.form
                    have PB : Hid (Calls Try.prog 7 #[.agg #[.int .i64 6, .int .i64 0, .int .i64 0, .int .i64 0, .int .i64 0, .int .i64 0, .int .i64 (128 + 10 * (i : Int)), .string ⟨#[]⟩, .string ⟨#[]⟩, .slice ta T'.length tc, .slice pa P'.length pc], .pointer (some ⟨gl, 0, none⟩)] w5 fun ez w' => (∃ x, ez = .returned (.int .i64 x)) ∧ Wr13 wo gl w' (R1 ++ [An.tbR (128 + 10 * (i : Int)) T' P'])) := by
                      skip
                      exact PB0.mono fun e w' h => ⟨⟨_, h.1⟩, h.2⟩
                    clear PB0 t1 p1 t2 p2 fr hb5 zc0
                    go_wp2_with fail
                    refine PB.out.mono ?_
                    clear PB
                    rintro e' w6 ⟨⟨zx, rfl⟩, hB⟩
                    have HWB := Lib.hid hB
                    clear hB
                    go_wp2
                    refine ⟨⟨i + 1, (128 + 10 * (i : Int)), T', P', by simp, rfl, by omega, ?_, fun h => rfl, fun h => ?_⟩, by simp [intOf]; omega⟩
                    · have h := HWB.out
                      rw [← HR1.out] at h
                      rw [An.recs_succ]; rw [An.recs_tab (An.tbR (128 + 10 * (i : Int)) T' P') (An.tbR (128 + 10 * (i : Int)) T P) i (by omega)]
                      unfold An.piece
                      rw [if_pos rfl, if_pos rfl, (show own[i]? = none from List.getElem?_eq_none (by rw [HNL.out]; omega))]
                      simpa using h
                    · have h1 := HT1.out
                      have h2 := HP1.out
                      rw [HAT.out] at h1 h2
                      exact ⟨h1, h2⟩
                · have hie2 : ¬ (i : Int) = (e : Int) := by omega
                  by_cases hlt : i < n
                  · have hlen : (An.recs own i e (An.tbR (128 + 10 * (i : Int)) T P) i).length = i := by rw [An.recs_lo (by omega) i (Nat.le_refl _), List.length_take, HNL.out]; omega
                    have PA : Hid (Calls Try.prog 7 #[.agg #[.int .i64 5, .int .i64 0, .int .i64 0, .int .i64 0, .int .i64 0, .int .i64 0, .int .i64 0, .string ⟨#[]⟩, .string ⟨#[]⟩, .slice none 0 0, .slice none 0 0], .pointer (some ⟨gl, 0, none⟩)] wr fun ez w' => ez = .returned (.int .i64 (128 + 10 * (i : Int))) ∧ Wr13 wo gl w' ((An.recs own i e (An.tbR (128 + 10 * (i : Int)) T P) i) ++ [An.bgR])) := by
                      have h := HW0.out.put An.bgR (.slice none 0 0) (.slice none 0 0) (Lists.nil wo An.bgR rfl rfl) (by rw [hlen]; omega)
                      rw [hlen] at h
                      exact h
                    clear hlen
                    go_wp2_with fail
                    refine PA.out.mono ?_
                    clear PA
                    rintro e' w4 ⟨rfl, hA⟩
                    have HWA := Lib.hid hA
                    clear hA
                    have hqi : i < q.length := by rw [HN'.out]; omega
                    obtain ⟨eb, eo, et, ep, he0, elt, ela, eci⟩ : ∃ b off vt vp, oa = some ⟨b, off, none⟩ ∧ b < wo.heap.size ∧ Lists wo q[i].r vt vp ∧ ∀ k x, (entCells q[i].at_ q[i].r vt vp)[k]? = some x → wo.cell? ⟨b, off + i * 12 + k, none⟩ = some x := by
                      obtain ⟨a, cap, hv0, _, _, hx⟩ := HE1.out
                      obtain ⟨rfl, _, rfl⟩ := Value.slice.inj hv0
                      obtain ⟨b, off, vt, vp, h1, h2, h3, h4⟩ := hx.whole i (by rw [List.length_map]; exact hqi)
                      rw [List.getElem_map] at h3 h4
                      exact ⟨b, off, vt, vp, h1, h2, h3, h4⟩
                    subst he0
                    obtain ⟨r, hr⟩ : ∃ r, r = q[i].r := ⟨_, rfl⟩
                    obtain ⟨ra, hra⟩ : ∃ ra, ra = q[i].at_ := ⟨_, rfl⟩
                    have HRI : Hid (own[i]? = some r) := by
                      rw [Hid, HOWN.out, List.getElem?_map, List.getElem?_eq_getElem hqi, hr]; rfl
                    rw [← hr, ← hra] at eci
                    rw [← hr] at ela
                    have hbw := HWA.out.below
                    have PC := Lib.hid (HWA.out.put r et ep ela (by rw [List.length_append, List.length_singleton]; have := An.recs_len (own := own) (b := i) (e := e) (tab := (An.tbR (128 + 10 * (i : Int)) T P)) i; omega))
                    obtain ⟨ta', tc', rfl⟩ := ela.t.form
                    obtain ⟨pa', pc', rfl⟩ := ela.p.form
                    have ecc : ∀ k x, (entCells ra r (.slice ta' r.txns.length tc') (.slice pa' r.pages.length pc'))[k]? = some x → w4.cell? ⟨eb, eo + i * 12 + k, none⟩ = some x := fun k x h => (hbw.cell (p := ⟨eb, eo + i * 12 + k, none⟩) elt).trans (eci k x h)
                    have c1 : w4.cell? ⟨eb, eo + i * 12 + 1, none⟩ = some (.int .i64 r.kind) := ecc 1 _ rfl
                    have c2 : w4.cell? ⟨eb, eo + i * 12 + 1 + 1, none⟩ = some (.int .i64 r.txn) := ecc 2 _ rfl
                    have c3 : w4.cell? ⟨eb, eo + i * 12 + 1 + 2, none⟩ = some (.int .i64 r.page) := ecc 3 _ rfl
                    have c4 : w4.cell? ⟨eb, eo + i * 12 + 1 + 3, none⟩ = some (.int .i64 r.off) := ecc 4 _ rfl
                    have c5 : w4.cell? ⟨eb, eo + i * 12 + 1 + 4, none⟩ = some (.int .i64 r.prev) := ecc 5 _ rfl
                    have c6 : w4.cell? ⟨eb, eo + i * 12 + 1 + 5, none⟩ = some (.int .i64 r.next) := ecc 6 _ rfl
                    have c7 : w4.cell? ⟨eb, eo + i * 12 + 1 + 6, none⟩ = some (.int .i64 r.beg) := ecc 7 _ rfl
                    have c8 : w4.cell? ⟨eb, eo + i * 12 + 1 + 7, none⟩ = some (.string r.before) := ecc 8 _ rfl
                    have c9 : w4.cell? ⟨eb, eo + i * 12 + 1 + 8, none⟩ = some (.string r.after) := ecc 9 _ rfl
                    have c10 : w4.cell? ⟨eb, eo + i * 12 + 1 + 9, none⟩ = some (.slice ta' r.txns.length tc') := ecc 10 _ rfl
                    have c11 : w4.cell? ⟨eb, eo + i * 12 + 1 + 10, none⟩ = some (.slice pa' r.pages.length pc') := ecc 11 _ rfl
                    unfold recV recCells at PC
                    clear ecc eci ela hr hra hbw hqi elt
                    go_wp2_with fail
                    refine PC.out.mono ?_
                    clear PC
                    rintro e' w7 ⟨rfl, hC⟩
                    have HWC := Lib.hid hC
                    clear hC c1 c2 c3 c4 c5 c6 c7 c8 c9 c10 c11
                    go_wp2
                    refine ⟨⟨i + 1, (128 + 10 * (i : Int)), T, P, by simp, rfl, by omega, ?_, fun h => rfl, fun h => HTP.out (by omega)⟩, by simp [intOf]; omega⟩
                    · have h := HWC.out
                      rw [An.recs_succ]
                      unfold An.piece
                      rw [if_pos rfl, if_neg (show ¬ i = e by omega), HRI.out]
                      simpa using h
                  · exfalso; omega
              · have hib2 : ¬ (i : Int) = (b : Int) := by omega
                by_cases hie : i = e
                · obtain rfl : i = e := hie
                  by_cases hlt : i < n
                  · have hat := An.recs_at (own := own) (b := b) (e := i) (tab := (An.tbR (128 + 10 * (b : Int)) T P)) (by omega) (by rw [HNL.out]; omega)
                    rw [if_neg (show ¬ i = b by omega), List.append_nil] at hat
                    have F1 : (An.recs own b i (An.tbR (128 + 10 * (b : Int)) T P) i).length ≤ 184 ∧ ∀ r ∈ (An.recs own b i (An.tbR (128 + 10 * (b : Int)) T P) i), r.txns.length ≤ 3200 ∧ r.pages.length ≤ 3200 := ⟨Nat.le_trans (An.recs_len i) (by omega), FI.out.2⟩
                    obtain ⟨R1, hR1⟩ : ∃ R1, (An.recs own b i (An.tbR (128 + 10 * (b : Int)) T P) i) = R1 := ⟨_, rfl⟩
                    rw [hR1] at hat F1
                    have HW1 : Hid (Wr13 wo gl wr R1) := by rw [Hid, ← hR1]; exact HW0.out
                    have HR1 := Lib.hid hR1
                    clear hR1 HW0
                    have hF1 := F1.1
                    obtain ⟨za, zc, zc0, hze⟩ := HW1.out.look
                    have TT := Lib.hid (asTables hze 0 (by rw [An.place_len]; omega) (few_keys ⟨by omega, F1.2⟩))
                    have F1H := Lib.hid F1
                    have HAT := Lib.hid hat
                    clear F1
                    obtain ⟨LR, hLR⟩ : ∃ LR, R1.length = LR := ⟨_, rfl⟩
                    rw [hLR] at zc0 TT hF1
                    have HLR := Lib.hid hLR
                    clear hLR hF1
                    clear hze hat
                    go_wp2_with fail
                    refine TT.out.mono ?_
                    clear TT
                    rintro e' w5 ⟨hb5, ⟨hbad, _⟩ | ⟨_, vt, vp, T', P', rfl, t1, p1, t2, p2, fr⟩⟩
                    · exact absurd (show An.tablesE _ 0 = 0 from by unfold An.tablesE; rw [if_pos (An.place_rises _ _), if_pos (.inl rfl)]) hbad
                    have PB0 := HW1.out.putAny hb5 (An.tbR (128 + 10 * (b : Int)) T' P') vt vp (.inr ⟨⟨t2, p2⟩, fr⟩) (by have := F1H.out.1; omega)
                    have HT1 := Lib.hid t1
                    have HP1 := Lib.hid p1
                    obtain ⟨ta, tc, rfl⟩ := t2.form
                    obtain ⟨pa, pc, rfl⟩ := p2.form
                    have PB : Hid (Calls Try.prog 7 #[.agg #[.int .i64 6, .int .i64 0, .int .i64 0, .int .i64 0, .int .i64 0, .int .i64 0, .int .i64 (c), .string ⟨#[]⟩, .string ⟨#[]⟩, .slice ta T'.length tc, .slice pa P'.length pc], .pointer (some ⟨gl, 0, none⟩)] w5 fun ez w' => (∃ x, ez = .returned (.int .i64 x)) ∧ Wr13 wo gl w' (R1 ++ [An.tbR (128 + 10 * (b : Int)) T' P'])) := by
                      rw [HC0.out (by omega)]
                      exact PB0.mono fun e w' h => ⟨⟨_, h.1⟩, h.2⟩
                    clear PB0 t1 p1 t2 p2 fr hb5 zc0
                    go_wp2_with fail
                    refine PB.out.mono ?_
                    clear PB
                    rintro e' w6 ⟨⟨zx, rfl⟩, hB⟩
                    have HWB := Lib.hid hB
                    clear hB
                    have hqi : i < q.length := by rw [HN'.out]; omega
                    obtain ⟨eb, eo, et, ep, he0, elt, ela, eci⟩ : ∃ b off vt vp, oa = some ⟨b, off, none⟩ ∧ b < wo.heap.size ∧ Lists wo q[i].r vt vp ∧ ∀ k x, (entCells q[i].at_ q[i].r vt vp)[k]? = some x → wo.cell? ⟨b, off + i * 12 + k, none⟩ = some x := by
                      obtain ⟨a, cap, hv0, _, _, hx⟩ := HE1.out
                      obtain ⟨rfl, _, rfl⟩ := Value.slice.inj hv0
                      obtain ⟨b, off, vt, vp, h1, h2, h3, h4⟩ := hx.whole i (by rw [List.length_map]; exact hqi)
                      rw [List.getElem_map] at h3 h4
                      exact ⟨b, off, vt, vp, h1, h2, h3, h4⟩
                    subst he0
                    obtain ⟨r, hr⟩ : ∃ r, r = q[i].r := ⟨_, rfl⟩
                    obtain ⟨ra, hra⟩ : ∃ ra, ra = q[i].at_ := ⟨_, rfl⟩
                    have HRI : Hid (own[i]? = some r) := by
                      rw [Hid, HOWN.out, List.getElem?_map, List.getElem?_eq_getElem hqi, hr]; rfl
                    rw [← hr, ← hra] at eci
                    rw [← hr] at ela
                    have hbw := HWB.out.below
                    have PC := Lib.hid (HWB.out.put r et ep ela (by have := F1H.out.1; rw [List.length_append, List.length_singleton]; omega))
                    obtain ⟨ta', tc', rfl⟩ := ela.t.form
                    obtain ⟨pa', pc', rfl⟩ := ela.p.form
                    have ecc : ∀ k x, (entCells ra r (.slice ta' r.txns.length tc') (.slice pa' r.pages.length pc'))[k]? = some x → w6.cell? ⟨eb, eo + i * 12 + k, none⟩ = some x := fun k x h => (hbw.cell (p := ⟨eb, eo + i * 12 + k, none⟩) elt).trans (eci k x h)
                    have c1 : w6.cell? ⟨eb, eo + i * 12 + 1, none⟩ = some (.int .i64 r.kind) := ecc 1 _ rfl
                    have c2 : w6.cell? ⟨eb, eo + i * 12 + 1 + 1, none⟩ = some (.int .i64 r.txn) := ecc 2 _ rfl
                    have c3 : w6.cell? ⟨eb, eo + i * 12 + 1 + 2, none⟩ = some (.int .i64 r.page) := ecc 3 _ rfl
                    have c4 : w6.cell? ⟨eb, eo + i * 12 + 1 + 3, none⟩ = some (.int .i64 r.off) := ecc 4 _ rfl
                    have c5 : w6.cell? ⟨eb, eo + i * 12 + 1 + 4, none⟩ = some (.int .i64 r.prev) := ecc 5 _ rfl
                    have c6 : w6.cell? ⟨eb, eo + i * 12 + 1 + 5, none⟩ = some (.int .i64 r.next) := ecc 6 _ rfl
                    have c7 : w6.cell? ⟨eb, eo + i * 12 + 1 + 6, none⟩ = some (.int .i64 r.beg) := ecc 7 _ rfl
                    have c8 : w6.cell? ⟨eb, eo + i * 12 + 1 + 7, none⟩ = some (.string r.before) := ecc 8 _ rfl
                    have c9 : w6.cell? ⟨eb, eo + i * 12 + 1 + 8, none⟩ = some (.string r.after) := ecc 9 _ rfl
                    have c10 : w6.cell? ⟨eb, eo + i * 12 + 1 + 9, none⟩ = some (.slice ta' r.txns.length tc') := ecc 10 _ rfl
                    have c11 : w6.cell? ⟨eb, eo + i * 12 + 1 + 10, none⟩ = some (.slice pa' r.pages.length pc') := ecc 11 _ rfl
                    unfold recV recCells at PC
                    clear ecc eci ela hr hra hbw hqi elt
                    go_wp2_with fail
                    refine PC.out.mono ?_
                    clear PC
                    rintro e' w7 ⟨rfl, hC⟩
                    have HWC := Lib.hid hC
                    clear hC c1 c2 c3 c4 c5 c6 c7 c8 c9 c10 c11
                    go_wp2
                    refine ⟨⟨i + 1, c, T', P', by simp, rfl, by omega, ?_, fun h => HC0.out (by omega), fun h => ?_⟩, by simp [intOf]; omega⟩
                    · have h := HWC.out
                      rw [← HR1.out] at h
                      rw [An.recs_succ]; rw [An.recs_tab (An.tbR (128 + 10 * (b : Int)) T' P') (An.tbR (128 + 10 * (b : Int)) T P) i (by omega)]
                      unfold An.piece
                      rw [if_neg (show ¬ i = b by omega), if_pos rfl, HRI.out]
                      simpa using h
                    · have h1 := HT1.out
                      have h2 := HP1.out
                      rw [HAT.out] at h1 h2
                      exact ⟨h1, h2⟩
                  · have hat := An.recs_at (own := own) (b := b) (e := i) (tab := (An.tbR (128 + 10 * (b : Int)) T P)) (by omega) (by rw [HNL.out]; omega)
                    rw [if_neg (show ¬ i = b by omega), List.append_nil] at hat
                    have F1 : (An.recs own b i (An.tbR (128 + 10 * (b : Int)) T P) i).length ≤ 184 ∧ ∀ r ∈ (An.recs own b i (An.tbR (128 + 10 * (b : Int)) T P) i), r.txns.length ≤ 3200 ∧ r.pages.length ≤ 3200 := ⟨Nat.le_trans (An.recs_len i) (by omega), FI.out.2⟩
                    obtain ⟨R1, hR1⟩ : ∃ R1, (An.recs own b i (An.tbR (128 + 10 * (b : Int)) T P) i) = R1 := ⟨_, rfl⟩
                    rw [hR1] at hat F1
                    have HW1 : Hid (Wr13 wo gl wr R1) := by rw [Hid, ← hR1]; exact HW0.out
                    have HR1 := Lib.hid hR1
                    clear hR1 HW0
                    have hF1 := F1.1
                    obtain ⟨za, zc, zc0, hze⟩ := HW1.out.look
                    have TT := Lib.hid (asTables hze 0 (by rw [An.place_len]; omega) (few_keys ⟨by omega, F1.2⟩))
                    have F1H := Lib.hid F1
                    have HAT := Lib.hid hat
                    clear F1
                    obtain ⟨LR, hLR⟩ : ∃ LR, R1.length = LR := ⟨_, rfl⟩
                    rw [hLR] at zc0 TT hF1
                    have HLR := Lib.hid hLR
                    clear hLR hF1
                    clear hze hat
                    go_wp2_with fail
                    refine TT.out.mono ?_
                    clear TT
                    rintro e' w5 ⟨hb5, ⟨hbad, _⟩ | ⟨_, vt, vp, T', P', rfl, t1, p1, t2, p2, fr⟩⟩
                    · exact absurd (show An.tablesE _ 0 = 0 from by unfold An.tablesE; rw [if_pos (An.place_rises _ _), if_pos (.inl rfl)]) hbad
                    have PB0 := HW1.out.putAny hb5 (An.tbR (128 + 10 * (b : Int)) T' P') vt vp (.inr ⟨⟨t2, p2⟩, fr⟩) (by have := F1H.out.1; omega)
                    have HT1 := Lib.hid t1
                    have HP1 := Lib.hid p1
                    obtain ⟨ta, tc, rfl⟩ := t2.form
                    obtain ⟨pa, pc, rfl⟩ := p2.form
                    have PB : Hid (Calls Try.prog 7 #[.agg #[.int .i64 6, .int .i64 0, .int .i64 0, .int .i64 0, .int .i64 0, .int .i64 0, .int .i64 (c), .string ⟨#[]⟩, .string ⟨#[]⟩, .slice ta T'.length tc, .slice pa P'.length pc], .pointer (some ⟨gl, 0, none⟩)] w5 fun ez w' => (∃ x, ez = .returned (.int .i64 x)) ∧ Wr13 wo gl w' (R1 ++ [An.tbR (128 + 10 * (b : Int)) T' P'])) := by
                      rw [HC0.out (by omega)]
                      exact PB0.mono fun e w' h => ⟨⟨_, h.1⟩, h.2⟩
                    clear PB0 t1 p1 t2 p2 fr hb5 zc0
                    go_wp2_with fail
                    refine PB.out.mono ?_
                    clear PB
                    rintro e' w6 ⟨⟨zx, rfl⟩, hB⟩
                    have HWB := Lib.hid hB
                    clear hB
                    go_wp2
                    refine ⟨⟨i + 1, c, T', P', by simp, rfl, by omega, ?_, fun h => HC0.out (by omega), fun h => ?_⟩, by simp [intOf]; omega⟩
                    · have h := HWB.out
                      rw [← HR1.out] at h
                      rw [An.recs_succ]; rw [An.recs_tab (An.tbR (128 + 10 * (b : Int)) T' P') (An.tbR (128 + 10 * (b : Int)) T P) i (by omega)]
                      unfold An.piece
                      rw [if_neg (show ¬ i = b by omega), if_pos rfl, (show own[i]? = none from List.getElem?_eq_none (by rw [HNL.out]; omega))]
                      simpa using h
                    · have h1 := HT1.out
                      have h2 := HP1.out
                      rw [HAT.out] at h1 h2
                      exact ⟨h1, h2⟩
                · have hie2 : ¬ (i : Int) = (e : Int) := by omega
                  by_cases hlt : i < n
                  · have hqi : i < q.length := by rw [HN'.out]; omega
                    obtain ⟨eb, eo, et, ep, he0, elt, ela, eci⟩ : ∃ b off vt vp, oa = some ⟨b, off, none⟩ ∧ b < wo.heap.size ∧ Lists wo q[i].r vt vp ∧ ∀ k x, (entCells q[i].at_ q[i].r vt vp)[k]? = some x → wo.cell? ⟨b, off + i * 12 + k, none⟩ = some x := by
                      obtain ⟨a, cap, hv0, _, _, hx⟩ := HE1.out
                      obtain ⟨rfl, _, rfl⟩ := Value.slice.inj hv0
                      obtain ⟨b, off, vt, vp, h1, h2, h3, h4⟩ := hx.whole i (by rw [List.length_map]; exact hqi)
                      rw [List.getElem_map] at h3 h4
                      exact ⟨b, off, vt, vp, h1, h2, h3, h4⟩
                    subst he0
                    obtain ⟨r, hr⟩ : ∃ r, r = q[i].r := ⟨_, rfl⟩
                    obtain ⟨ra, hra⟩ : ∃ ra, ra = q[i].at_ := ⟨_, rfl⟩
                    have HRI : Hid (own[i]? = some r) := by
                      rw [Hid, HOWN.out, List.getElem?_map, List.getElem?_eq_getElem hqi, hr]; rfl
                    rw [← hr, ← hra] at eci
                    rw [← hr] at ela
                    have hbw := HW0.out.below
                    have PC := Lib.hid (HW0.out.put r et ep ela (by have := An.recs_len (own := own) (b := b) (e := e) (tab := (An.tbR (128 + 10 * (b : Int)) T P)) i; omega))
                    obtain ⟨ta', tc', rfl⟩ := ela.t.form
                    obtain ⟨pa', pc', rfl⟩ := ela.p.form
                    have ecc : ∀ k x, (entCells ra r (.slice ta' r.txns.length tc') (.slice pa' r.pages.length pc'))[k]? = some x → wr.cell? ⟨eb, eo + i * 12 + k, none⟩ = some x := fun k x h => (hbw.cell (p := ⟨eb, eo + i * 12 + k, none⟩) elt).trans (eci k x h)
                    have c1 : wr.cell? ⟨eb, eo + i * 12 + 1, none⟩ = some (.int .i64 r.kind) := ecc 1 _ rfl
                    have c2 : wr.cell? ⟨eb, eo + i * 12 + 1 + 1, none⟩ = some (.int .i64 r.txn) := ecc 2 _ rfl
                    have c3 : wr.cell? ⟨eb, eo + i * 12 + 1 + 2, none⟩ = some (.int .i64 r.page) := ecc 3 _ rfl
                    have c4 : wr.cell? ⟨eb, eo + i * 12 + 1 + 3, none⟩ = some (.int .i64 r.off) := ecc 4 _ rfl
                    have c5 : wr.cell? ⟨eb, eo + i * 12 + 1 + 4, none⟩ = some (.int .i64 r.prev) := ecc 5 _ rfl
                    have c6 : wr.cell? ⟨eb, eo + i * 12 + 1 + 5, none⟩ = some (.int .i64 r.next) := ecc 6 _ rfl
                    have c7 : wr.cell? ⟨eb, eo + i * 12 + 1 + 6, none⟩ = some (.int .i64 r.beg) := ecc 7 _ rfl
                    have c8 : wr.cell? ⟨eb, eo + i * 12 + 1 + 7, none⟩ = some (.string r.before) := ecc 8 _ rfl
                    have c9 : wr.cell? ⟨eb, eo + i * 12 + 1 + 8, none⟩ = some (.string r.after) := ecc 9 _ rfl
                    have c10 : wr.cell? ⟨eb, eo + i * 12 + 1 + 9, none⟩ = some (.slice ta' r.txns.length tc') := ecc 10 _ rfl
                    have c11 : wr.cell? ⟨eb, eo + i * 12 + 1 + 10, none⟩ = some (.slice pa' r.pages.length pc') := ecc 11 _ rfl
                    unfold recV recCells at PC
                    clear ecc eci ela hr hra hbw hqi elt
                    go_wp2_with fail
                    refine PC.out.mono ?_
                    clear PC
                    rintro e' w7 ⟨rfl, hC⟩
                    have HWC := Lib.hid hC
                    clear hC c1 c2 c3 c4 c5 c6 c7 c8 c9 c10 c11
                    go_wp2
                    refine ⟨⟨i + 1, c, T, P, by simp, rfl, by omega, ?_, fun h => HC0.out (by omega), fun h => HTP.out (by omega)⟩, by simp [intOf]; omega⟩
                    · have h := HWC.out
                      rw [An.recs_succ]
                      unfold An.piece
                      rw [if_neg (show ¬ i = b by omega), if_neg (show ¬ i = e by omega), HRI.out]
                      simpa using h
                  · go_wp2
                    refine ⟨⟨i + 1, c, T, P, by simp, rfl, by omega, ?_, fun h => HC0.out (by omega), fun h => HTP.out (by omega)⟩, by simp [intOf]; omega⟩
                    · have h := HW0.out
                      rw [An.recs_succ]
                      unfold An.piece
                      rw [if_neg (show ¬ i = b by omega), if_neg (show ¬ i = e by omega), (show own[i]? = none from List.getElem?_eq_none (by rw [HNL.out]; omega))]
                      simpa using h
            · obtain rfl : i = n + 1 := by omega
              clear hin
              obtain ⟨ht0, hp0⟩ := HTP.out (by omega)
              obtain ⟨hrun, hz0, hzc⟩ := An.check_recs (fun r hr => (HOR.out r hr).1) hbe (by rw [HNL.out]; exact hdn) (c := 128 + 10 * (b : Int)) rfl ht0 hp0
              rw [HNL.out] at hrun hz0 hzc
              have hc1 := HC0.out (by omega)
              have FI := FRS.out T P (n + 1) (by omega) HTP.out
              obtain ⟨R1, hR1⟩ : ∃ R1, An.recs own b e (An.tbR (128 + 10 * (b : Int)) T P) (n + 1) = R1 := ⟨_, rfl⟩
              rw [hR1] at hrun hz0 hzc FI
              have HW1 : Hid (Wr13 wo gl wr R1) := by rw [Hid, ← hR1]; exact HW0.out
              have hfk := few_keys FI
              have hpl : (An.place 0 R1).length ≤ 1000 := by rw [An.place_len]; have := FI.1; omega
              have HFK := Lib.hid hfk
              have HBW := Lib.hid (HBO.out.trans (HW1.out.below.mono HBO.out.size))
              obtain ⟨za, zc, zc0, hze⟩ := HW1.out.look
              obtain ⟨LR, hLR⟩ : ∃ LR, R1.length = LR := ⟨_, rfl⟩
              rw [hLR] at zc0 hze
              have T1 := Lib.hid (asTables hze 0 hpl hfk)
              have HRUN := Lib.hid hrun
              have HZ := Lib.hid (And.intro hz0 hzc)
              subst hc1
              clear hrun hz0 hzc FI hR1 ht0 hp0 hLR hfk HW0 HC0 HTP FRS hze
              go_wp2_with fail
              refine T1.out.mono ?_
              clear T1
              rintro e' w5 ⟨hb5, ⟨hbad, _⟩ | ⟨_, vt, vp, T', P', rfl, t1, p1, t2, p2, _⟩⟩
              · exact absurd HZ.out.1 hbad
              have HW5 := Lib.hid (HW1.out.more hb5)
              have HB5 := Lib.hid (below2 HBW.out hb5)
              obtain ⟨za', zc', zc0', hze'⟩ := HW5.out.look
              obtain ⟨LR', hLR'⟩ : ∃ LR', R1.length = LR' := ⟨_, rfl⟩
              rw [hLR'] at zc0' hze'
              have T2 := Lib.hid (asTables hze' (128 + 10 * (b : Int)) hpl HFK.out)
              have TT := Lib.hid t1
              have PP := Lib.hid p1
              have ET := Lib.hid t2
              have EP := Lib.hid p2
              obtain ⟨ta, tc, rfl⟩ := t2.form
              obtain ⟨pa, pc, rfl⟩ := p2.form
              clear t1 p1 t2 p2 hb5 zc0 hze' hLR' HW1 HBW
              go_wp2_with fail
              refine T2.out.mono ?_
              clear T2
              rintro e' w6 ⟨hb6, ⟨hbad, _⟩ | ⟨_, vt, vp, T2, P2, rfl, t1, p1, t2, p2, _⟩⟩
              · exact absurd HZ.out.2 hbad
              have hr := HRUN.out
              rw [← hr] at t1 p1
              obtain rfl := TT.out.unique t1
              obtain rfl := PP.out.unique p1
              have hlt := An.tellsT_len t1
              have hlp := An.tellsP_len p1
              have hfk := HFK.out
              have ltT : T'.length ≤ 1000000 := by omega
              have ltP : P'.length ≤ 1000000 := by omega
              have C1 := Lib.hid (refSame10E (ET.out.keep hb6) t2 ltT)
              have HB6 := Lib.hid (below2 HB5.out hb6)
              have EP6 := Lib.hid (EP.out.keep hb6)
              have EQ6 := Lib.hid p2
              obtain ⟨ta', tc', rfl⟩ := t2.form
              obtain ⟨pa', pc', rfl⟩ := p2.form
              clear hr t1 p1 t2 p2 hlt hlp hfk hb6 zc0' HB5 ET EP HW5 hpl HFK
              go_wp2_with fail
              refine C1.out.mono ?_
              clear C1
              rintro e' w7 ⟨rfl, hb7⟩
              have C2 := Lib.hid (rqSameE (EP6.out.keep hb7) (EQ6.out.keep hb7) ltP)
              have HB7 := Lib.hid (below2 HB6.out hb7)
              clear hb7 HB6 EP6 EQ6
              go_wp2_with fail
              refine C2.out.mono ?_
              clear C2
              rintro e' w8 ⟨rfl, hb8⟩
              have HB8 := Lib.hid (below2 HB7.out hb8)
              clear hb8 HB7
              go_wp2
              go_ret
              exact ⟨rfl, HB8.out⟩
    · have h60b : decide (60 < (l.length : Int)) = true := by rw [decide_eq_true_eq]; omega
      have hn2 : (l.length : Int) ≤ 200 := by omega
      go_wp2_with fail
      refine (awake13 w2).mono ?_
      rintro e w3 ⟨rfl, hb⟩
      have HB3 := Lib.hid (below2 HB2.out hb)
      clear hb
      go_wp2
      go_ret
      exact ⟨rfl, HB3.out⟩
  · have FW := Lib.hid (fun (W : World) (h : IsEnts W (.slice va l.length vc) l) => refFew h hz false ⟨(fun h => by cases h), fun h => absurd h hf⟩)
    clear hz hf hx
    go_enter Try.func3, Try.ntmps3
    go_wp2_with fail
    refine AW.out.mono ?_
    rintro e w1 ⟨rfl, hb⟩
    have H1 := Lib.hid (HV.out.keep hb)
    have HB1 := Lib.hid hb
    clear hb AW
    go_wp2_with fail
    refine (FW.out _ H1.out).mono ?_
    rintro e w2 ⟨rfl, hb⟩
    have HB2 := Lib.hid (below2 HB1.out hb)
    clear hb FW H1 HB1
    go_wp2_with fail
    refine (awake13 w2).mono ?_
    rintro e w3 ⟨rfl, hb⟩
    have HB3 := Lib.hid (below2 HB2.out hb)
    clear hb
    go_wp2
    go_ret
    exact ⟨rfl, HB3.out⟩
end Go.Proofs.Ytgjkhjlobfblcaa
