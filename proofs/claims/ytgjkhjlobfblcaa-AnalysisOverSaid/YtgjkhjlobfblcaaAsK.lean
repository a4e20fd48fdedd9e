/- The walk of AnalysisOver. -/
import Derived.Test.YtgjkhjlobfblcaaAsJ
import Derived.Test.YtgjkhjlobfblcaaAnE
namespace Go.Proofs.Ytgjkhjlobfblcaa
open Go.RowKit Go.MapKept
set_option linter.unusedSimpArgs false
set_option linter.unusedVariables false

/-- A map's key and value. -/
def kvI (p : Int × Int) : Value × Value := (.int .i64 p.1, .int .i64 p.2)
theorem Rng.ne_map {α : Type} {w : World} {b c r : Nat} {f : α → Value × Value} {T : List α} {g : Int → Option Value} (h : Rng w b r f T) (hm : BMap w c g) : c ≠ r := by
  rintro rfl
  obtain ⟨_, _, _, _, _, _, _, hr, _⟩ := h
  obtain ⟨_, _, hb, _⟩ := hm
  rw [hr] at hb
  cases hb
theorem filter_yes {L : List En} {x : En} (h : okB x = true) : (L ++ [x]).filter okB = L.filter okB ++ [x] := by rw [List.filter_append, List.filter_cons_of_pos h]; rfl
theorem filter_no {L : List En} {x : En} (h : okB x = false) : (L ++ [x]).filter okB = L.filter okB := by rw [List.filter_append, List.filter_cons_of_neg (by rw [h]; decide)]; simp
theorem okB_no {x : En} (h : x.2.kind < 1 ∨ 4 < x.2.kind ∨ x.1 < 1 ∨ 1099511627776 < x.1) : okB x = false := by
  rw [Bool.eq_false_iff]
  intro e
  have := okB_iff.1 e
  omega

set_option maxRecDepth 100000 in
set_option maxHeartbeats 64000000 in
theorem walkAnalysisOver (v : Value) (l : List Ent) (w : World) (hv : IsEnts w v l ∧ ∀ x ∈ l, Sized x.2) :
    Calls Try.prog 4 #[v] w fun e w' => e = .returned (.bool true) ∧ Below w.heap.size w w' := by
  obtain ⟨hv, hz⟩ := hv
  have HV := Lib.hid hv
  obtain ⟨va, vc, rfl, hvc, _, hx⟩ := hv
  have HX := Lib.hid hx
  have AW := Lib.hid (awake13 w)
  by_cases hf : FewL l
  · have HF := Lib.hid hf
    have hn : l.length ≤ 200 := hf.1
    have FW := Lib.hid (fun (W : World) (h : IsEnts W (.slice va l.length vc) l) => refFew h hz true ⟨fun _ => hf, fun _ => rfl⟩)
    clear hz hf hx
    go_enter Try.func4, Try.ntmps4
    go_wp2_with fail
    refine AW.out.mono ?_
    rintro e w1 ⟨rfl, hb⟩
    have H1 := Lib.hid (HV.out.keep hb)
    have HB1 := Lib.hid hb
    clear hb AW
    go_wp2_with fail
    refine (FW.out _ H1.out).mono ?_
    rintro e w2 ⟨rfl, hb⟩
    have H2 := Lib.hid (H1.out.keep hb)
    have HB2 := Lib.hid (below2 HB1.out hb)
    clear hb FW H1 HB1
    by_cases hr : Ch.Rises l
    · have RS := Lib.hid (refRises H2.out true (decide_eq_true hr).symm)
      have HRI := Lib.hid hr
      clear hr
      go_wp2_with fail
      refine RS.out.mono ?_
      rintro e w3 ⟨rfl, hb⟩
      have HB3 := Lib.hid (below2 HB2.out hb)
      clear hb RS H2 HB2
      by_cases h60 : l.length ≤ 60
      · have h60b : decide (60 < (l.length : Int)) = false := by rw [decide_eq_false_iff_not]; omega
        have hmm := @run_makeMap Try.prog
        obtain ⟨i0, hi, hz⟩ := Option.map_eq_some_iff.1 infoEnt
        simp only [Prod.mk.injEq] at hz
        obtain ⟨hz0, hz1, hz2⟩ := hz
        have m1 := BMap.made w3
        have m2 := BMap.made (w3.alloc (.map #[] 0))
        have hb4 := ((Below.refl w3.heap.size w3).alloc (Nat.le_refl _) (.map #[] 0)).alloc (by simp) (.map #[] 0)
        have m1 := m1.keep (Below.heap_alloc (w3.alloc (.map #[] 0)) (.map #[] 0) _ m1.lt)
        simp only [World.size_alloc] at m2
        go_upto_region 7 with fail
        generalize (w3.alloc (.map #[] 0)).alloc (.map #[] 0) = w4 at *
        obtain ⟨fm, hfm⟩ : ∃ fm, w3.heap.size = fm := ⟨_, rfl⟩
        obtain ⟨nm, hnm⟩ : ∃ nm, fm + 1 = nm := ⟨_, rfl⟩
        have HB4 := Lib.hid (below2 HB3.out hb4)
        have HGE : Hid (w.heap.size ≤ fm ∧ w.heap.size ≤ nm) := by have := HB3.out.size; constructor <;> omega
        have HNE : Hid (fm ≠ nm) := by rw [Hid]; omega
        rw [hfm] at m1 m2 ⊢
        rw [hnm] at m2 ⊢
        have M1 : Hid (BMap w4 fm (mI fun _ => none)) := m1.congr fun _ => rfl
        have M2 : Hid (BMap w4 nm (mI fun _ => none)) := m2.congr fun _ => rfl
        clear m1 m2 hb4 hfm hnm hmm HB3
        go_wp2_with fail
        go_loopw [3, 5, 39] (fun vat vo vk wr => ∃ (k : Nat) (q : List Qx) (at_ : Int) (cnt : Int → Option Int), vk = .int .i64 k ∧ vat = .int .i64 at_ ∧ k ≤ l.length ∧ wr.ownsRow w.heap.size 30 12 vo q.length (qV q) ∧ q.length ≤ k ∧ q.map Qx.ent = (l.take k).filter okB ∧ (∀ x ∈ q, Lists w x.r x.vt x.vp) ∧
          BMap wr fm (mI (((l.take k).filter okB).foldl An.firstStep fun _ => none)) ∧ BMap wr nm (mI cnt) ∧ Cnt13 cnt ((l.take k).filter okB) k ∧ Last13 at_ ((l.take k).filter okB) ∧ Below w.heap.size w wr) (fun _ _ vk _ => l.length - (intOf vk).toNat)
        case atStart => exact ⟨0, [], 0, fun _ => none, rfl, rfl, Nat.zero_le _, World.ownsRow_nil _ _ _ 12, Nat.le_refl _, rfl, nofun, M1.out, M2.out, ⟨fun n => by simp, fun n c h => by cases h⟩, ⟨Int.le_refl _, by decide, nofun⟩, HB4.out⟩
        case round =>
          obtain ⟨k, q, at_, cnt, rfl, rfl, hk, hown, hqk, hq, hql, hfm, hnm, hcn, hla, hB⟩ := hrel
          have HOW := Lib.hid hown
          have HQ := Lib.hid hq
          have HQL := Lib.hid hql
          have HB := Lib.hid hB
          have HFM := Lib.hid hfm
          have HNM := Lib.hid hnm
          have HCN := Lib.hid hcn
          have HLA := Lib.hid hla
          clear hown hq hql hB hfm hnm hcn hla M1 M2 HB4
          by_cases hlt : k < l.length
          · have hwz := HB.out.size
            obtain ⟨b, off, vt, vp, rfl, lt1, la, ci⟩ := HX.out.whole k hlt
            obtain ⟨x, hxx⟩ : ∃ x, x = l[k].1 := ⟨_, rfl⟩
            obtain ⟨r, hrr⟩ : ∃ r, r = l[k].2 := ⟨_, rfl⟩
            rw [← hxx, ← hrr] at ci
            rw [← hrr] at la
            have HXR := Lib.hid (show l[k] = (x, r) from Prod.ext hxx.symm hrr.symm)
            have HTK := Lib.hid (show l.take (k + 1) = l.take k ++ [l[k]] from by rw [List.take_add_one, List.getElem?_eq_getElem hlt]; rfl)
            have HLST := Lib.hid la
            obtain ⟨ta, tc, e1⟩ := la.t.form
            obtain ⟨pa, pc, e2⟩ := la.p.form
            subst e1 e2
            have cc : ∀ i u, (entCells x r (.slice ta r.txns.length tc) (.slice pa r.pages.length pc))[i]? = some u → wr.cell? ⟨b, off + k * 12 + i, none⟩ = some u := fun i u h => (HB.out.cell (p := ⟨b, off + k * 12 + i, none⟩) lt1).trans (ci i u h)
            have c0 : wr.cell? ⟨b, off + k * 12, none⟩ = _ := cc 0 _ rfl
            have c1 := cc 1 _ rfl
            have c2 := cc 2 _ rfl
            have c3 := cc 3 _ rfl
            have c4 := cc 4 _ rfl
            have c5 := cc 5 _ rfl
            have c6 := cc 6 _ rfl
            have c7 := cc 7 _ rfl
            have c8 := cc 8 _ rfl
            have c9 := cc 9 _ rfl
            have c10 := cc 10 _ rfl
            have c11 := cc 11 _ rfl
            simp only [entCells, List.getElem_toArray, List.getElem_cons_zero, List.getElem_cons_succ] at c0 c1 c2 c3 c4 c5 c6 c7 c8 c9 c10 c11
            clear cc ci la hxx hrr lt1
            by_cases h1 : r.kind < 1
            · have HNO := Lib.hid (okB_no (x := (x, r)) (.inl h1))
              go_wp2
              refine ⟨⟨k + 1, q, at_, cnt, by simp, rfl, hlt, HOW.out.alloc _, by omega, ?_, HQL.out, ?_, HNM.out.keep (Below.heap_alloc _ _ _ HNM.out.lt), ?_, ?_, HB.out.alloc hwz _⟩, by simp [intOf]; omega⟩
              · rw [HTK.out, HXR.out, filter_no HNO.out]
                exact HQ.out
              · rw [HTK.out, HXR.out, filter_no HNO.out]
                exact HFM.out.keep (Below.heap_alloc _ _ _ HFM.out.lt)
              · rw [HTK.out, HXR.out, filter_no HNO.out]
                exact HCN.out.more
              · rw [HTK.out, HXR.out, filter_no HNO.out]
                exact HLA.out
            · by_cases h2 : 4 < r.kind
              · have HNO := Lib.hid (okB_no (x := (x, r)) (.inr (.inl h2)))
                go_wp2
                refine ⟨⟨k + 1, q, at_, cnt, by simp, rfl, hlt, HOW.out.alloc _, by omega, ?_, HQL.out, ?_, HNM.out.keep (Below.heap_alloc _ _ _ HNM.out.lt), ?_, ?_, HB.out.alloc hwz _⟩, by simp [intOf]; omega⟩
                · rw [HTK.out, HXR.out, filter_no HNO.out]
                  exact HQ.out
                · rw [HTK.out, HXR.out, filter_no HNO.out]
                  exact HFM.out.keep (Below.heap_alloc _ _ _ HFM.out.lt)
                · rw [HTK.out, HXR.out, filter_no HNO.out]
                  exact HCN.out.more
                · rw [HTK.out, HXR.out, filter_no HNO.out]
                  exact HLA.out
              · by_cases h3 : x < 1
                · have HNO := Lib.hid (okB_no (x := (x, r)) (.inr (.inr (.inl h3))))
                  go_wp2
                  refine ⟨⟨k + 1, q, at_, cnt, by simp, rfl, hlt, HOW.out.alloc _, by omega, ?_, HQL.out, ?_, HNM.out.keep (Below.heap_alloc _ _ _ HNM.out.lt), ?_, ?_, HB.out.alloc hwz _⟩, by simp [intOf]; omega⟩
                  · rw [HTK.out, HXR.out, filter_no HNO.out]
                    exact HQ.out
                  · rw [HTK.out, HXR.out, filter_no HNO.out]
                    exact HFM.out.keep (Below.heap_alloc _ _ _ HFM.out.lt)
                  · rw [HTK.out, HXR.out, filter_no HNO.out]
                    exact HCN.out.more
                  · rw [HTK.out, HXR.out, filter_no HNO.out]
                    exact HLA.out
                · by_cases h4 : 1099511627776 < x
                  · have HNO := Lib.hid (okB_no (x := (x, r)) (.inr (.inr (.inr h4))))
                    go_wp2
                    refine ⟨⟨k + 1, q, at_, cnt, by simp, rfl, hlt, HOW.out.alloc _, by omega, ?_, HQL.out, ?_, HNM.out.keep (Below.heap_alloc _ _ _ HNM.out.lt), ?_, ?_, HB.out.alloc hwz _⟩, by simp [intOf]; omega⟩
                    · rw [HTK.out, HXR.out, filter_no HNO.out]
                      exact HQ.out
                    · rw [HTK.out, HXR.out, filter_no HNO.out]
                      exact HFM.out.keep (Below.heap_alloc _ _ _ HFM.out.lt)
                    · rw [HTK.out, HXR.out, filter_no HNO.out]
                      exact HCN.out.more
                    · rw [HTK.out, HXR.out, filter_no HNO.out]
                      exact HLA.out
                  · skip
                    have HYES : Hid (okB (x, r) = true) := okB_iff.2 ⟨by simp only; omega, by simp only; omega, by simp only; omega, by simp only; omega⟩
                    have HLAST : Hid (Last13 x ((l.take k).filter okB ++ [(x, r)])) := ⟨by omega, by omega, fun y hy => by
                      rcases List.mem_append.1 hy with hy | hy
                      · have h1 := (List.mem_filter.1 hy).1
                        obtain ⟨j, hj, rfl⟩ := List.getElem_of_mem h1
                        rw [List.length_take] at hj
                        rw [List.getElem_take]
                        have := rises_lt HRI.out hlt (show j < k by omega)
                        rw [HXR.out] at this
                        simp only at this
                        omega
                      · rw [List.mem_singleton.1 hy]; exact Int.le_refl _⟩
                    have hkd : decide (r.kind < 1) = false := by rw [decide_eq_false_iff_not]; omega
                    go_upto_region 12 with fail
                    obtain ⟨X, hX⟩ : ∃ X : Array Value, X = #[.int .i64 x, .int .i64 r.kind, .int .i64 r.txn, .int .i64 r.page, .int .i64 r.off, .int .i64 r.prev, .int .i64 r.next, .int .i64 r.beg, .string r.before, .string r.after, .slice ta r.txns.length tc, .slice pa r.pages.length pc] := ⟨_, rfl⟩
                    rw [← hX]
                    have xb := Blk.new wr 30 X
                    have hbx : Below wr.heap.size wr (wr.alloc (.cells X 30)) := (Below.refl _ _).alloc (Nat.le_refl _) _
                    generalize wr.alloc (.cells X 30) = wx at *
                    have ox := own_below HOW.out hbx
                    have HGV : Hid (u5.ownBlock ≠ some wr.heap.size) := fun e => by have := (HOW.out.lt _ e).2; omega
                    have hgx := xb.lt
                    obtain ⟨g, hg⟩ : ∃ g, wr.heap.size = g := ⟨_, rfl⟩
                    have HBX := Lib.hid hbx
                    have HGS := Lib.hid hg
                    rw [hg] at xb HGV hgx ⊢
                    clear c0 c1 c2 c3 c4 c5 c6 c7 c8 c9 c10 c11 hbx hg
                    rw [hX] at xb
                    have d0 := xb.cell 0
                    have d1 := xb.cell 1
                    have d2 := xb.cell 2
                    have d3 := xb.cell 3
                    have d4 := xb.cell 4
                    have d5 := xb.cell 5
                    have d6 := xb.cell 6
                    have d7 := xb.cell 7
                    have d8 := xb.cell 8
                    have d9 := xb.cell 9
                    have d10 := xb.cell 10
                    have d11 := xb.cell 11
                    simp only [List.getElem?_toArray, List.getElem?_cons_zero, List.getElem?_cons_succ] at d0 d1 d2 d3 d4 d5 d6 d7 d8 d9 d10 d11
                    have OX := Lib.hid ox
                    have BX := Lib.hid (HB.out.trans (HBX.out.mono hwz))
                    have wxz := BX.out.size
                    have XB := Lib.hid xb
                    have FMX := Lib.hid (HFM.out.keep (HBX.out.block fm HFM.out.lt))
                    have NMX := Lib.hid (HNM.out.keep (HBX.out.block nm HNM.out.lt))
                    rw [hX]
                    clear hX xb ox
                    go_upto_region 13 with (at_builtin; refine wpList_append_own_at _ rfl (.tmp 65) (.tmp 67) 22 rfl w.heap.size 30 i0 _ 12 144 Try.underlying22 hi hz0 hz1 hz2 rfl (by decide) _ _ _ rfl (OX.out.alloc _) ⟨wx.heap.size, 0, none⟩ 1 1 [.int .i64 x, .int .i64 r.kind, .int .i64 r.txn, .int .i64 r.page, .int .i64 r.off, .int .i64 r.prev, .int .i64 r.next, .int .i64 r.beg, .string r.before, .string r.after, .slice ta r.txns.length tc, .slice pa r.pages.length pc] rfl rfl (World.news_of_block (Blk.new _ _ _)) (by simp [Value.oneCell']) (by simp only [maxLen]; omega) (by omega) (by simp; omega) ?_; intro v' w6 hown' hgrow _ _)
                    have kb : ∀ c, c < wx.heap.size → u5.ownBlock ≠ some c → w6.heap[c]? = wx.heap[c]? := fun c h2 h3 => (hgrow.block c (by simp; omega) fun e => h3 e.symm).trans (Below.heap_alloc wx _ c h2)
                    have x6 := (kb g hgx HGV.out).trans XB.out
                    have fm6 := FMX.out.keep (kb fm FMX.out.lt (own_mapB FMX.out OX.out))
                    have nm6 := NMX.out.keep (kb nm NMX.out.lt (own_mapB NMX.out OX.out))
                    have FM6 := Lib.hid fm6
                    have OW6 := Lib.hid hown'
                    have HB6 : Hid (Below w.heap.size w w6) := (BX.out.alloc wxz _).grown hgrow (by simp; omega) fun j ej => (OX.out.lt j ej).1
                    have X6 : Hid (Blk w6 g 30 #[.int .i64 x, .int .i64 r.kind, .int .i64 r.txn, .int .i64 r.page, .int .i64 r.off, .int .i64 r.prev, .int .i64 r.next, .int .i64 r.beg, .string r.before, .string r.after, .slice ta r.txns.length tc, .slice pa r.pages.length pc]) := x6
                    clear kb hgrow d0 d1 d2 d3 d4 d5 d6 d7 d8 d9 d10 d11 fm6 OX XB FMX NMX BX HFM HNM HOW HGV HBX x6 hown' HGS
                    have d0 := X6.out.cell 0
                    have d1 := X6.out.cell 1
                    have d2 := X6.out.cell 2
                    have d3 := X6.out.cell 3
                    simp only [List.getElem?_toArray, List.getElem?_cons_zero, List.getElem?_cons_succ] at d0 d1 d2 d3
                    have lk := lookI0 nm6 r.txn
                    have HADD := Lib.hid (HCN.out.add (x, r))
                    obtain ⟨cn, hcn⟩ : ∃ cn, (cnt r.txn).getD 0 = cn := ⟨_, rfl⟩
                    have hcn1 : 0 ≤ cn ∧ cn ≤ k := by
                      rw [← hcn]
                      cases hc : cnt r.txn with
                      | none => simp
                      | some d => exact HCN.out.few _ _ hc
                    have hcn2 := hcn1.2
                    have hcn1 := hcn1.1
                    rw [hcn] at lk
                    have HCE := Lib.hid hcn
                    clear hcn HCN
                    obtain ⟨w7, u7, nm7, o7, z7⟩ := putI nm6 r.txn (cn + 1)
                    rw [← HCE.out] at nm7
                    have NM7 := Lib.hid nm7
                    have FM7 := Lib.hid (FM6.out.keep (o7.block fm FM6.out.lt HNE.out))
                    have OW7 := Lib.hid (own_only OW6.out o7 fun b hb e => by subst e; exact own_mapB nm6 OW6.out hb)
                    have X7 := Lib.hid (o7.blk X6.out (fun e => BMap.cells nm6 X6.out e))
                    have HB7 := Lib.hid (o7.below HB6.out HB6.out.size fun b e => by rw [e]; exact HGE.out.2)
                    clear o7 nm7 FM6 OW6 HB6
                    go_upto_region 14 with fail
                    clear lk u7 nm6 X6 d0 d1 d2 d3
                    have d0 := X7.out.cell 0
                    have d1 := X7.out.cell 1
                    have d3 := X7.out.cell 3
                    simp only [List.getElem?_toArray, List.getElem?_cons_zero, List.getElem?_cons_succ] at d0 d1 d3
                    have lf := lookI FM7.out r.page
                    obtain ⟨F, hF⟩ : ∃ F, F = ((l.take k).filter okB).foldl An.firstStep (fun _ => none) := ⟨_, rfl⟩
                    rw [← hF] at lf FM7
                    have HFF := Lib.hid hF
                    clear hF
                    cases hf : F r.page with
                    | none =>
                      rw [hf] at lf
                      simp only [Option.getD_none, Option.isSome_none] at lf
                      by_cases hk2 : r.kind ≤ 2
                      · obtain ⟨w8, u8, fm8, o8, z8⟩ := putI FM7.out r.page x
                        have HFS : Hid (An.firstStep (((l.take k).filter okB).foldl An.firstStep fun _ => none) (x, r) = An.put F r.page (some x)) := by
                          rw [Hid, ← HFF.out]; exact An.firstStep_new hk2 hf
                        have FM8 := Lib.hid fm8
                        have NM8 := Lib.hid (NM7.out.keep (o8.block nm NM7.out.lt (fun e => HNE.out e.symm)))
                        have OW8 := Lib.hid (own_only OW7.out o8 fun b hb e => by subst e; exact own_mapB FM7.out OW7.out hb)
                        have HB8 := Lib.hid (o8.below HB7.out HB7.out.size fun b e => by rw [e]; exact HGE.out.1)
                        clear o8 fm8 FM7 OW7 HB7 NM7 hf X7
                        go_wp2
                        refine ⟨⟨k + 1, q ++ [⟨x, r, .slice ta r.txns.length tc, .slice pa r.pages.length pc⟩], x, _, by simp, rfl, hlt, ?_, by simp; omega, ?_, ?_, ?_, NM8.out, ?_, ?_, HB8.out⟩, by simp [intOf]; omega⟩
                        · rw [qV_snoc, List.length_append]
                          exact OW8.out
                        · have h1 := HQ.out
                          rw [HTK.out, HXR.out, filter_yes HYES.out, List.map_append, ← h1]
                          rfl
                        · intro y hy
                          rcases List.mem_append.1 hy with hy | hy
                          · exact HQL.out y hy
                          · rw [List.mem_singleton.1 hy]; exact HLST.out
                        · rw [HTK.out, HXR.out, filter_yes HYES.out, An.first_snoc, HFS.out]
                          exact FM8.out
                        · rw [HTK.out, HXR.out, filter_yes HYES.out]
                          exact HADD.out
                        · rw [HTK.out, HXR.out, filter_yes HYES.out]
                          exact HLAST.out
                      · have HFS : Hid (An.firstStep (((l.take k).filter okB).foldl An.firstStep fun _ => none) (x, r) = F) := by
                          rw [Hid, ← HFF.out]; exact An.firstStep_not hk2
                        clear hf
                        go_wp2
                        refine ⟨⟨k + 1, q ++ [⟨x, r, .slice ta r.txns.length tc, .slice pa r.pages.length pc⟩], x, _, by simp, rfl, hlt, ?_, by simp; omega, ?_, ?_, ?_, NM7.out, ?_, ?_, HB7.out⟩, by simp [intOf]; omega⟩
                        · rw [qV_snoc, List.length_append]
                          exact OW7.out
                        · have h1 := HQ.out
                          rw [HTK.out, HXR.out, filter_yes HYES.out, List.map_append, ← h1]
                          rfl
                        · intro y hy
                          rcases List.mem_append.1 hy with hy | hy
                          · exact HQL.out y hy
                          · rw [List.mem_singleton.1 hy]; exact HLST.out
                        · rw [HTK.out, HXR.out, filter_yes HYES.out, An.first_snoc, HFS.out]
                          exact FM7.out
                        · rw [HTK.out, HXR.out, filter_yes HYES.out]
                          exact HADD.out
                        · rw [HTK.out, HXR.out, filter_yes HYES.out]
                          exact HLAST.out
                    | some f0 =>
                      rw [hf] at lf
                      simp only [Option.getD_some, Option.isSome_some] at lf
                      have HFS : Hid (An.firstStep (((l.take k).filter okB).foldl An.firstStep fun _ => none) (x, r) = F) := by
                        rw [Hid, ← HFF.out]; exact An.firstStep_old hf
                      clear hf
                      go_wp2
                      refine ⟨⟨k + 1, q ++ [⟨x, r, .slice ta r.txns.length tc, .slice pa r.pages.length pc⟩], x, _, by simp, rfl, hlt, ?_, by simp; omega, ?_, ?_, ?_, NM7.out, ?_, ?_, HB7.out⟩, by simp [intOf]; omega⟩
                      · rw [qV_snoc, List.length_append]
                        exact OW7.out
                      · have h1 := HQ.out
                        rw [HTK.out, HXR.out, filter_yes HYES.out, List.map_append, ← h1]
                        rfl
                      · intro y hy
                        rcases List.mem_append.1 hy with hy | hy
                        · exact HQL.out y hy
                        · rw [List.mem_singleton.1 hy]; exact HLST.out
                      · rw [HTK.out, HXR.out, filter_yes HYES.out, An.first_snoc, HFS.out]
                        exact FM7.out
                      · rw [HTK.out, HXR.out, filter_yes HYES.out]
                        exact HADD.out
                      · rw [HTK.out, HXR.out, filter_yes HYES.out]
                        exact HLAST.out
          · obtain rfl : k = l.length := by omega
            clear hlt
            have hwo : ∃ wo, wo = wr := ⟨_, rfl⟩
            obtain ⟨wo, rfl⟩ := hwo
            obtain ⟨E, hE⟩ : ∃ E, E = l.filter okB := ⟨_, rfl⟩
            have htl : (l.take l.length).filter okB = E := by rw [List.take_length, hE]
            have hq2 := HQ.out
            have hfm2 := HFM.out
            have hcn2 := HCN.out
            have hla2 := HLA.out
            rw [htl] at hq2 hfm2 hcn2 hla2
            have hEl : E.length ≤ 60 := by rw [hE]; exact Nat.le_trans (List.length_filter_le _ _) h60
            have HEO : Hid (∀ x ∈ E, An.Own x ∧ 0 ≤ x.1) := fun x hx => by
              rw [hE] at hx
              have := okB_iff.1 (List.mem_filter.1 hx).2
              refine ⟨?_, by omega⟩
              unfold An.Own
              omega
            have HER : Hid (Ch.Rises E) := by rw [Hid, hE]; exact HRI.out.sublist List.filter_sublist
            have HEF : Hid (∀ x ∈ E, x.2.txns.length ≤ 50 ∧ x.2.pages.length ≤ 50) := fun x hx => by
              rw [hE] at hx
              have := HF.out.2 x (List.mem_filter.1 hx).1
              exact ⟨this.txns, this.pages⟩
            obtain ⟨L, hL, hLl⟩ := An.fin cnt (E.map (·.2.txn)) fun n hn => by
              have : (cnt n).isSome = true := by cases h : cnt n with | none => exact absurd h hn | some _ => rfl
              obtain ⟨x, hx, e⟩ := (hcn2.all n).1 this
              exact List.mem_map.2 ⟨x, hx, e⟩
            rw [List.length_map] at hLl
            have HLA2 : Hid (∀ x ∈ E, ∃ y ∈ L, y.1 = x.2.txn) := fun x hx => by
              have := (hcn2.all x.2.txn).2 ⟨x, hx, rfl⟩
              cases h : cnt x.2.txn with
              | none => rw [h] at this; cases this
              | some c => exact ⟨_, (hL.2 _ _).1 h, rfl⟩
            obtain ⟨es, clock, he, hst, hpm⟩ := BMap.list HNM.out (T := L) (fun x => x.1) (fun x => .int .i64 x.2) hL.1 (fun x hx => by unfold mI; rw [(hL.2 x.1 x.2).2 hx]; rfl) fun i v hv => by
              unfold mI at hv
              cases hf : cnt i with
              | none => rw [hf] at hv; cases hv
              | some c => exact ⟨_, (hL.2 i c).1 hf, rfl⟩
            obtain ⟨er, R0⟩ := Rng.start (P := Try.prog) (f := kvI) Try.underlying39 he hst hpm
            have O0 := HOW.out.alloc (.mapIter (some nm) clock #[] clock)
            have F0 := hfm2.keep (Below.heap_alloc wo (.mapIter (some nm) clock #[] clock) fm hfm2.lt)
            have B0 := HB.out.alloc HB.out.size (.mapIter (some nm) clock #[] clock)
            have HR0 := Lib.hid R0
            have HO0 := Lib.hid O0
            have HF0 := Lib.hid F0
            have HB0 := Lib.hid B0
            have HQ2 := Lib.hid hq2
            have HLST := Lib.hid hla2
            have hat0 := hla2.pos
            have hat1 := hla2.few
            have HWI := Lib.hid HB.out.size
            clear hq2 hfm2 hcn2 hla2 htl hE hL he hst hpm R0 O0 F0 B0 HOW HQ HFM HNM HCN HLA HB hk hqk HRI HF
            go_wp2_with fail
            go_loopw [3, 5] (fun vat va wr => ∃ (done D : List (Int × Int)) (q2 : List Qx), vat = .int .i64 (at_ + done.length) ∧ wr.ownsRow w.heap.size 30 12 va q2.length (qV q2) ∧ q2.map Qx.ent = E ++ An.ends at_ (done.map (·.1)) ∧ (∀ x ∈ q2, Lists w x.r x.vt x.vp) ∧ (done ++ D).Perm L ∧
              Rng wr nm wo.heap.size kvI D ∧ BMap wr fm (mI (E.foldl An.firstStep fun _ => none)) ∧ Below w.heap.size w wr) (fun _ _ wr => wr.rangeLeft nm wo.heap.size)
            case atStart => exact ⟨[], L, q, by simp, HO0.out, by rw [HQ2.out]; simp [An.ends], HQL.out, by simp, HR0.out, HF0.out, HB0.out⟩
            case round =>
              obtain ⟨done, D, q2, rfl, hown, hq2, hql2, hpm, hR, hfm, hB⟩ := hrel
              have hql3 : q2.length = E.length + done.length := by
                have := congrArg List.length hq2
                rw [List.length_map, List.length_append, An.ends_len, List.length_map] at this
                exact this
              have hdl : done.length + D.length = L.length := by have := hpm.length_eq; rw [List.length_append] at this; exact this
              have HQL2 := Lib.hid hql2
              have HQQ := Lib.hid hq2
              have HPM := Lib.hid hpm
              obtain ⟨aa, haa⟩ : ∃ aa, at_ + (done.length : Int) = aa := ⟨_, rfl⟩
              have ha0 : 0 ≤ aa := by omega
              have ha1 : aa ≤ 1099511627936 := by omega
              have HAA := Lib.hid haa
              rw [haa]
              clear hq2 hql2 hpm er HR0 HO0 HF0 HB0 HQ2 HQL haa
              rcases hR.next (P := Try.prog) 0 with ⟨rfl, en⟩ | ⟨x, D', w5, hpx, en, hR1, hg, hs, hen⟩
              · skip
                obtain ⟨ns, hns⟩ : ∃ ns, done.map (·.1) = ns := ⟨_, rfl⟩
                have hqq := HQQ.out
                rw [hns] at hqq
                have hin : ∀ x ∈ E, x.2.txn ∈ ns := fun x hx => by
                  obtain ⟨y, hy, e⟩ := HLA2.out x hx
                  rw [← hns, ← e]
                  have hp : done.Perm L := by have := HPM.out; simpa using this
                  exact List.mem_map.2 ⟨y, hp.mem_iff.2 hy, rfl⟩
                obtain ⟨hz0', hzt, hzp⟩ := An.over_all HER.out HLST.out.all HLST.out.pos HEO.out hin
                obtain ⟨E2, hE2⟩ : ∃ E2, E ++ An.ends at_ ns = E2 := ⟨_, rfl⟩
                have hE2f : ∀ x ∈ E2, x.2.txns.length ≤ 50 ∧ x.2.pages.length ≤ 50 := fun x hx => by
                  rw [← hE2] at hx
                  rcases List.mem_append.1 hx with hx | hx
                  · exact HEF.out x hx
                  · obtain ⟨_, _, _, h1, h2⟩ := An.ends_mem hx
                    rw [h1, h2]
                    exact ⟨Nat.zero_le _, Nat.zero_le _⟩
                rw [hE2] at hqq hz0' hzt hzp
                have hE2l : E2.length = q2.length := by rw [← hqq, List.length_map]
                have hk1 := An.keysT_len 50 E2 fun x hx => (hE2f x hx).1
                have hk2 := An.keysP_len 50 E2 fun x hx => (hE2f x hx).2
                have hie := qEnts hown (fun x hx => (HQL2.out x hx).keep hB)
                rw [hqq] at hie
                have hq120 : q2.length ≤ 120 := by omega
                have TT := Lib.hid (asTables hie 0 (by omega) ⟨by omega, by omega⟩)
                obtain ⟨oa, oc, ho⟩ := own_slice hown
                subst ho
                have HFM := Lib.hid hfm
                have HB := Lib.hid hB
                have HZ := Lib.hid (And.intro hz0' (And.intro hzt hzp))
                clear hql3 hdl hns hqq hin hz0' hzt hzp hE2 hE2f hE2l hk1 hk2 hie hown hfm hB hR HQL2 HQQ HPM HAA HLA2 HLST HEO HER HEF hq120
                go_wp2_with fail
                refine TT.out.mono ?_
                clear TT
                rintro e' w6 ⟨hb6, ⟨hbad, _⟩ | ⟨_, vt, vp, T, P, rfl, t1, p1, t2, p2, _⟩⟩
                · exact absurd HZ.out.1 hbad
                obtain rfl := An.tells_none HZ.out.2.1 t1
                rw [HZ.out.2.2] at p1
                have FM6 := Lib.hid (HFM.out.keep (hb6.block fm HFM.out.lt))
                have HB6 := Lib.hid (below2 HB.out hb6)
                have HLEN := lenI FM6.out p1
                obtain ⟨ta, tc, rfl⟩ := t2.form
                have hpm := p2.le
                unfold maxLen at hpm
                have EP := Lib.hid p2
                have TP := Lib.hid p1
                obtain ⟨pa, pc, rfl⟩ := p2.form
                obtain ⟨n, hn3⟩ : ∃ n, P.length = n := ⟨_, rfl⟩
                rw [hn3] at HLEN hpm ⊢
                have HN3 := Lib.hid hn3
                clear hn3 hb6 t1 p1 t2 p2 HB HFM HZ
                simp only [List.length_nil]
                go_wp2_with fail
                go_loopw [135] (fun vi wr => ∃ k : Nat, vi = .int .i64 k ∧ k ≤ n ∧ Below w6.heap.size w6 wr) (fun vi _ => n - (intOf vi).toNat)
                case atStart => exact ⟨0, rfl, Nat.zero_le _, Below.refl _ _⟩
                case round =>
                  obtain ⟨k, rfl, hk, hB⟩ := hrel
                  have HB := Lib.hid hB
                  clear hB HLEN
                  by_cases hlt : k < n
                  · have hkn : k < P.length := by rw [HN3.out]; exact hlt
                    obtain ⟨b, off, cap, e0, _, _, hbl, hc⟩ := Elems.at2 (l := P) (EP.out.keep HB.out) (fun e => by rw [e] at hkn; simp at hkn)
                    rw [HN3.out] at e0
                    obtain ⟨rfl, _, rfl⟩ := Value.slice.inj e0
                    obtain ⟨x0, x1⟩ := hc k hkn
                    have hfx : (E.foldl An.firstStep fun _ => none) P[k].1 = some P[k].2 := (TP.out.all _ _).2 (List.getElem_mem hkn)
                    have FMR := FM6.out.keep (HB.out.block fm FM6.out.lt)
                    have hrise : ∀ j (h : j + 1 = k), P[j].1 < P[k].1 := fun j h => List.pairwise_iff_getElem.1 TP.out.rise j k (by omega) hkn (by omega)
                    obtain ⟨t, ht⟩ : ∃ t, t = P[k].1 := ⟨_, rfl⟩
                    obtain ⟨f, hf⟩ : ∃ f, f = P[k].2 := ⟨_, rfl⟩
                    rw [← ht, ← hf] at hfx
                    rw [← ht] at x0 hrise
                    rw [← hf] at x1
                    have HCC := Lib.hid hc
                    clear ht hf e0 hc
                    have r8 := Blk.new wr 42 #[.int .i64 t, .int .i64 f]
                    have b8 : Below wr.heap.size wr (wr.alloc (.cells #[.int .i64 t, .int .i64 f] 42)) := (Below.refl _ _).alloc (Nat.le_refl _) _
                    go_upto_region 29 with fail
                    generalize wr.alloc (Obj.cells #[.int .i64 t, .int .i64 f] 42) = w8 at *
                    have FM8 := FMR.keep (b8.block fm FMR.lt)
                    have lk : ∀ m, (Instr.lookup 39 (.map (some fm)) (.int .i64 t) false).run Try.prog (w8.drewN m) = .ok (.int .i64 f) (w8.drewN m) := fun m => by
                      have := lookI0 (w := w8.drewN m) (FM8.keep rfl) t
                      rw [hfx] at this
                      exact this
                    have e0 := r8.cell 0
                    have e1 := r8.cell 1
                    simp only [List.getElem?_toArray, List.getElem?_cons_zero, List.getElem?_cons_succ] at e0 e1
                    have HB8 := Lib.hid (HB.out.trans (b8.mono HB.out.size))
                    cases k with
                    | zero =>
                      clear FMR FM8 r8 b8 x0 x1 hfx hrise HB
                      go_wp2_with (go_quiet (fail))
                      refine ⟨⟨1, by simp, hlt, belowN HB8.out _⟩, by simp [intOf]; omega⟩
                    | succ j =>
                      have hj := HCC.out j (by omega)
                      obtain ⟨u, hu⟩ : ∃ u, u = P[j].1 := ⟨_, rfl⟩
                      have hut := hrise j rfl
                      rw [← hu] at hj hut
                      have y0 := (b8.cell (p := ⟨b, off + j * 2, none⟩) hbl).trans hj.1
                      have hgt : decide ((0 : Int) < ((j + 1 : Nat) : Int)) = true := by rw [decide_eq_true_eq]; omega
                      have hsub : ((j + 1 : Nat) : Int) - 1 = (j : Int) := by omega
                      have hle : decide (t ≤ u) = false := by rw [decide_eq_false_iff_not]; omega
                      clear FMR FM8 r8 b8 x0 x1 hfx hrise HB hj hu hut
                      go_wp2_with (go_quiet (fail))
                      refine ⟨⟨j + 1 + 1, by simp, hlt, belowN HB8.out _⟩, by simp [intOf]; omega⟩
                  · obtain rfl : k = n := by omega
                    clear hlt
                    go_wp2
                    go_ret
                    exact ⟨rfl, HB6.out.trans (HB.out.mono HB6.out.size)⟩
              · have o1 := own_keep hown fun c hc => hg.block c (hown.lt c hc).2 (fun e => (hR.own hown).2 (by rw [hc, e]))
                have f1 := hfm.keep (hg.block fm hfm.lt fun e => hR.ne_map hfm (Option.some.inj e))
                have b1 := hB.grown hg hB.size (fun c e => by cases e; exact HWI.out)
                have hm2 : wr.rangeLeft nm wo.heap.size = D'.length + 1 := by rw [hR.left_eq, hpx.length_eq]; rfl
                have hp2 : (done ++ [x] ++ D').Perm L := by
                  rw [List.append_assoc]
                  exact ((hpx.append_left done).symm.trans HPM.out)
                have hl3 : q2.length ≤ 120 := by omega
                have z1 := b1.size
                have O1 := Lib.hid o1
                have F1 := Lib.hid f1
                have B1 := Lib.hid b1
                have R1 := Lib.hid hR1
                have HM2 := Lib.hid hm2
                have HP2 := Lib.hid hp2
                obtain ⟨n, hn1⟩ : ∃ n, x.1 = n := ⟨_, rfl⟩
                obtain ⟨xc, hxc⟩ : ∃ xc, x.2 = xc := ⟨_, rfl⟩
                unfold kvI at en hen
                rw [hn1, hxc] at en hen
                have HN1 := Lib.hid hn1
                clear o1 f1 b1 hR1 hm2 hp2 hown hR hfm hB hg hs hpx HPM hn1 hxc
                go_wp2_with (at_builtin; refine wpList_append_own_at _ rfl (.tmp 106) (.tmp 111) 22 rfl w.heap.size 30 i0 _ 12 144 Try.underlying22 hi hz0 hz1 hz2 rfl (by decide) _ _ _ rfl (O1.out.alloc _) ⟨w5.heap.size, 0, none⟩ 1 1 [.int .i64 (aa + 1), .int .i64 4, .int .i64 n, .int .i64 0, .int .i64 0, .int .i64 0, .int .i64 0, .int .i64 0, .string ⟨#[]⟩, .string ⟨#[]⟩, .slice none 0 0, .slice none 0 0] rfl rfl (World.news_of_block (Blk.new _ _ _)) (by simp [Value.oneCell']) (by simp only [maxLen]; omega) (by omega) (by simp; omega) ?_; intro v' w6 hown' hgrow _ _)
                have kb : ∀ c, c < w5.heap.size → u5.ownBlock ≠ some c → w6.heap[c]? = w5.heap[c]? := fun c h2 h3 => (hgrow.block c (by simp; omega) fun e => h3 e.symm).trans (Below.heap_alloc w5 _ c h2)
                have f6 := F1.out.keep (kb fm F1.out.lt (own_mapB F1.out O1.out))
                have r6 := R1.out.keep (kb nm R1.out.ltb (R1.out.own O1.out).1) (kb _ R1.out.ltr (R1.out.own O1.out).2)
                have b6 : Below w.heap.size w w6 := (B1.out.alloc z1 _).grown hgrow (by simp; omega) fun j ej => (O1.out.lt j ej).1
                refine ⟨⟨done ++ [x], D', q2 ++ [⟨aa + 1, Rc.com 4 n 0, .slice none 0 0, .slice none 0 0⟩], ?_, ?_, ?_, ?_, HP2.out, r6, f6, b6⟩, ?_⟩
                · have := HAA.out
                  rw [List.length_append, List.length_singleton]
                  congr 1
                  omega
                · rw [qV_snoc, List.length_append]
                  exact hown'
                · have h1 := HQQ.out
                  rw [List.map_append, h1, List.map_append, List.append_assoc]
                  congr 1
                  rw [show [x].map (·.1) = [n] by rw [← HN1.out]; rfl, An.ends_snoc, List.length_map, HAA.out]
                  rfl
                · intro y hy
                  rcases List.mem_append.1 hy with hy | hy
                  · exact HQL2.out y hy
                  · rw [List.mem_singleton.1 hy]; exact Lists.nil w _ rfl rfl
                · rw [r6.left_eq, HM2.out]
                  omega
      · have h60b : decide (60 < (l.length : Int)) = true := by rw [decide_eq_true_eq]; omega
        have hn2 : (l.length : Int) ≤ 200 := by omega
        go_wp2_with fail
        refine (awake13 w3).mono ?_
        rintro e w4 ⟨rfl, hb⟩
        have HB4 := Lib.hid (below2 HB3.out hb)
        clear hb
        go_wp2
        go_ret
        exact ⟨rfl, HB4.out⟩
    · have RS := Lib.hid (refRises H2.out false (decide_eq_false hr).symm)
      clear hr
      go_wp2_with fail
      refine RS.out.mono ?_
      rintro e w3 ⟨rfl, hb⟩
      have HB3 := Lib.hid (below2 HB2.out hb)
      clear hb RS H2 HB2
      go_wp2_with fail
      refine (awake13 w3).mono ?_
      rintro e w4 ⟨rfl, hb⟩
      have HB4 := Lib.hid (below2 HB3.out hb)
      clear hb
      go_wp2
      go_ret
      exact ⟨rfl, HB4.out⟩
  · have FW := Lib.hid (fun (W : World) (h : IsEnts W (.slice va l.length vc) l) => refFew h hz false ⟨(fun h => by cases h), fun h => absurd h hf⟩)
    clear hz hf hx
    go_enter Try.func4, Try.ntmps4
    go_wp2_with fail
    refine AW.out.mono ?_
    rintro e w1 ⟨rfl, hb⟩
    have H1 := Lib.hid (HV.out.keep hb)
    have HB1 := Lib.hid hb
    clear hb AW
    go_wp2_with fail
    refine (FW.out _ H1.out).mono ?_
    rintro e w2 ⟨rfl, hb⟩
    have HB2 := Lib.hid (below2 HB1.out hb)
    clear hb FW H1 HB1
    go_wp2_with fail
    refine (awake13 w2).mono ?_
    rintro e w3 ⟨rfl, hb⟩
    have HB3 := Lib.hid (below2 HB2.out hb)
    clear hb
    go_wp2
    go_ret
    exact ⟨rfl, HB3.out⟩
end Go.Proofs.Ytgjkhjlobfblcaa
