/- careenref11: Chain, Stand, Undo. -/
import Derived.Test.YtecalnglidjmgaaChS
namespace Go.Proofs.Ytecalnglidjmgaa
open Go.RowKit

/-- On the way: what was come to, and from where it goes on. -/
structure Way (l : List En) (t : Int) (md : Bool) (stop : Int → Bool) (p : Int) (pre : List En) (q : Int) : Prop where
  fst : (Ch.follow l t md stop p).1 = pre ++ (Ch.follow l t md stop q).1
  snd : (Ch.follow l t md stop p).2 = (Ch.follow l t md stop q).2
namespace Way
variable {l : List En} {t p q : Int} {md : Bool} {stop : Int → Bool} {pre : List En} {r : Rc} {n : Nat}
theorem start (l : List En) (t : Int) (md : Bool) (stop : Int → Bool) (p : Int) : Way l t md stop p [] p := ⟨rfl, rfl⟩
theorem step (h : Way l t md stop p pre q) (hs : stop q = false) (hr : Ch.at_ l t q = (r, 0)) : Way l t md stop p (pre ++ [(q, r)]) (Ch.nxt md r) :=
  ⟨by rw [h.fst, Ch.follow_step hs hr]; simp, by rw [h.snd, Ch.follow_step hs hr]⟩
theorem done (h : Way l t md stop p pre q) (hs : stop q = true) : Ch.follow l t md stop p = (pre, 0) := by
  have h1 := h.fst
  have h2 := h.snd
  rw [Ch.follow_stop hs] at h1 h2
  rw [List.append_nil] at h1
  exact Prod.ext h1 h2
theorem err (h : Way l t md stop p pre q) (hs : stop q = false) (hr : Ch.at_ l t q = (r, n)) (hn : n ≠ 0) : (Ch.follow l t md stop p).2 = n := by
  rw [h.snd, Ch.follow_err hs hr hn]
theorem len (h : Way l t md stop p pre q) : pre.length ≤ l.length := by
  have h1 := Ch.follow_len l t md stop p
  have h2 := Ch.rank_le l p
  rw [h.fst, List.length_append] at h1
  omega
theorem ok (h : Way l t md stop p pre q) : ∀ x ∈ pre, ¬ Ch.Bad t x.1 x.2 := fun x hx =>
  (Ch.follow_mem l t md stop p x (by rw [h.fst]; exact List.mem_append.2 (.inl hx))).2.2
end Way
theorem kind_ok {t p : Int} {r : Rc} (h : ¬ Ch.Bad t p r) : r.kind = 1 ∨ r.kind = 2 := by unfold Ch.Bad at h; omega
theorem txn_ok {t p : Int} {r : Rc} (h : ¬ Ch.Bad t p r) : r.txn = t := by unfold Ch.Bad at h; omega

theorem upd_take {pre : List En} {q : Int} {r : Rc} (h : r.kind = 1) : Ch.upd (pre ++ [(q, r)]) = Ch.upd pre ++ [(q, r)] := by
  unfold Ch.upd
  rw [List.filter_append, List.filter_cons_of_pos (p := fun x : En => x.2.kind == 1) (by simp [h])]
  rfl
theorem upd_skip {pre : List En} {q : Int} {r : Rc} (h : r.kind = 2) : Ch.upd (pre ++ [(q, r)]) = Ch.upd pre := by
  unfold Ch.upd
  rw [List.filter_append, List.filter_cons_of_neg (p := fun x : En => x.2.kind == 1) (by simp [h])]
  simp
theorem upd_len (pre : List En) : (Ch.upd pre).length ≤ pre.length := List.length_filter_le _ _

set_option maxRecDepth 100000 in
set_option maxHeartbeats 16000000 in
theorem refChain {w : World} {v : Value} {l : List En} (hv : IsEnts w v l) (hn : l.length ≤ 1000) (t p : Int) :
    Calls Try.prog 11 #[v, .int .i64 t, .int .i64 p] w fun e w' => ChainR w w' (Ch.chain l t p) e := by
  have HV := Lib.hid hv
  obtain ⟨va, vc, rfl, _⟩ := hv
  obtain ⟨U, hU⟩ : ∃ U, U = Ch.chain l t p := ⟨_, rfl⟩
  rw [← hU]
  have HU := Lib.hid hU
  clear hU
  unfold ChainR
  by_cases hr : Ch.Rises l
  · have RS := Lib.hid (refRises HV.out true (decide_eq_true hr).symm)
    have HR := Lib.hid hr
    clear hr
    go_enter Try.func11, Try.ntmps11
    go_wp2_with fail
    refine RS.out.mono ?_
    rintro e w1 ⟨rfl, hb⟩
    have HB1 := Lib.hid hb
    clear hb RS
    obtain ⟨i0, hi, hz⟩ := Option.map_eq_some_iff.1 infoInt
    simp only [Prod.mk.injEq] at hz
    obtain ⟨hz0, hz1, hz2⟩ := hz
    go_wp2_with fail
    go_loopw [2, 8] (fun vq vo wr => ∃ (pre : List En) (q : Int), vq = .int .i64 q ∧ Way l t false Ch.st0 p pre q ∧ wr.ownsRow w.heap.size 3 1 vo pre.length (placesV (pre.map Prod.fst)) ∧ Below w.heap.size w wr) (fun vq _ _ => Ch.rank l (intOf vq))
    case atStart => exact ⟨[], p, rfl, .start l t false Ch.st0 p, World.ownsRow_nil _ _ _ 1, HB1.out⟩
    case round =>
      obtain ⟨pre, q, rfl, hway, hown, hB⟩ := hrel
      have WAY := Lib.hid hway
      have HOW := Lib.hid hown
      have HB := Lib.hid hB
      have hple := hway.len
      clear hway hown hB
      by_cases hq : q = 0
      · have hqb : (q != 0) = false := by simp [hq]
        have hd := WAY.out.done (by unfold Ch.st0; simp [hq])
        have hUU : U = (pre.map Prod.fst, 0) := by rw [HU.out]; unfold Ch.chain; simp [HR.out, hd]
        clear hq hd
        subst hUU
        obtain ⟨oa, oc, rfl⟩ := (Elems.ofOwn HOW.out).form
        go_wp2
        go_ret2
        exact ⟨_, rfl, w.heap.size, Nat.le_refl _, HOW.out, HB.out⟩
      · have hqb : (q != 0) = true := by simp [hq]
        have hsq : Ch.st0 q = false := by unfold Ch.st0; simp [hq]
        have C := Lib.hid (refAt (HV.out.keep HB.out) t q)
        rcases hat : Ch.at_ l t q with ⟨r, n⟩
        rw [hat] at C
        by_cases hn0 : n = 0
        · subst hn0
          have hz := Ch.at_zero hat
          have WAY2 := Lib.hid (WAY.out.step hsq hat)
          have RK := Lib.hid (Ch.rank_lt (x := (q, r)) hz.1 (Ch.nxt_lt hz.2.2 false))
          clear hq hsq hat hz WAY
          go_wp2_with fail
          refine C.out.mono ?_
          rintro e w2 ⟨hb, vt, vp, la, rfl⟩
          obtain ⟨ta, tc, rfl⟩ := la.t.form
          obtain ⟨pa, pc, rfl⟩ := la.p.form
          have hb2 : Below w.heap.size w w2 := below2 HB.out hb
          have ow2 := own_below HOW.out hb
          have HG2 := Lib.hid (fun b hb => (ow2.lt b hb).2)
          clear la C hb HB HOW
          unfold recV recCells
          obtain ⟨X, hX⟩ : ∃ X : Array Value, X = #[.int .i64 r.kind, .int .i64 r.txn, .int .i64 r.page, .int .i64 r.off, .int .i64 r.prev, .int .i64 r.next, .int .i64 r.beg, .string r.before, .string r.after, .slice ta r.txns.length tc, .slice pa r.pages.length pc] := ⟨_, rfl⟩
          go_upto_region 6 with fail
          rw [← hX]
          have xb := Blk.new w2 45 X
          have bx := hb2.alloc hb2.size (.cells X 45)
          have ox := ow2.alloc (.cells X 45)
          generalize hwx : w2.alloc (.cells X 45) = wx at *
          rw [hX] at xb
          have d0 := xb.cell 0
          have d4 := xb.cell 4
          simp only [List.getElem?_toArray, List.getElem?_cons_zero, List.getElem?_cons_succ] at d0 d4
          have OX := Lib.hid ox
          have BX := Lib.hid bx
          have wxz := bx.size
          have xlt := xb.lt
          rw [hX]
          have XB := Lib.hid xb
          clear hX xb ox bx hwx hb2 ow2
          go_wp2_with (at_builtin; refine wpList_append_own_at _ rfl (.tmp 26) (.tmp 28) 25 rfl w.heap.size 3 i0 _ 1 8 Try.underlying25 hi hz0 hz1 hz2 rfl (by decide) _ _ _ rfl (OX.out.alloc _) ⟨wx.heap.size, 0, none⟩ 1 1 [.int .i64 q] rfl rfl (World.news_of_block (Blk.new _ _ _)) (by simp [Value.oneCell']) (by simp only [maxLen]; omega) (by omega) (by simp; omega) ?_; intro v' w6 hown' hgrow _ _; obtain ⟨g', cap', rfl⟩ := ownsRow_succ hown'; have x6 : Blk w6 w2.heap.size 45 _ := (hgrow.block w2.heap.size (by simp; omega) (fun e => by have := HG2.out _ e.symm; omega)).trans (XB.out.alloc _); have e4 := x6.cell 4; simp only [List.getElem?_toArray, List.getElem?_cons_zero, List.getElem?_cons_succ] at e4; have HB6 : Below w.heap.size w w6 := (BX.out.alloc wxz _).grown hgrow (by simp; omega) fun j ej => (OX.out.lt j ej).1; have HB7 := Lib.hid HB6; have OW6 := Lib.hid hown'; clear HB6 hown' x6 hgrow)
          have hnx : Ch.nxt false r = r.prev := if_neg (by simp)
          have way2 := WAY2.out
          have rk := RK.out
          rw [hnx] at way2 rk
          refine ⟨⟨pre ++ [(q, r)], r.prev, rfl, way2, ?_, HB7.out⟩, rk⟩
          rw [List.map_append, List.length_append]
          exact (placesV_snoc _ q).symm ▸ OW6.out
        · have he := WAY.out.err hsq hat hn0
          have hUU : U = ([], n) := by rw [HU.out]; unfold Ch.chain; simp [HR.out, he, hn0]
          have hnb : ((n : Int) != 0) = true := by simp; omega
          clear he hat hq hsq hn0
          subst hUU
          go_wp2_with fail
          refine C.out.mono ?_
          rintro e w2 ⟨hb, vt, vp, la, rfl⟩
          obtain ⟨ta, tc, rfl⟩ := la.t.form
          obtain ⟨pa, pc, rfl⟩ := la.p.form
          have HB2 := Lib.hid (below2 HB.out hb)
          clear la C hb
          unfold recV recCells
          go_wp2
          go_ret2
          exact ⟨_, rfl, w.heap.size, Nat.le_refl _, World.ownsRow_nil _ _ _ 1, HB2.out.alloc HB2.out.size _⟩
  · have RS := Lib.hid (refRises HV.out false (decide_eq_false hr).symm)
    have hUU : U = ([], 3) := by rw [HU.out]; unfold Ch.chain; simp [hr]
    clear hr
    subst hUU
    go_enter Try.func11, Try.ntmps11
    go_wp2_with fail
    refine RS.out.mono ?_
    rintro e w1 ⟨rfl, hb⟩
    have HB1 := Lib.hid hb
    clear hb RS
    go_wp2
    go_ret2
    first | exact ⟨_, rfl, w.heap.size, Nat.le_refl _, World.ownsRow_nil _ _ _ 1, HB1.out⟩ | exact ⟨_, w.heap.size, rfl, Nat.le_refl _, World.ownsRow_nil _ _ _ 1, HB1.out⟩ | exact ⟨_, w.heap.size, Nat.le_refl _, rfl, World.ownsRow_nil _ _ _ 1, HB1.out⟩
set_option maxRecDepth 100000 in
set_option maxHeartbeats 16000000 in
theorem refStand {w : World} {v : Value} {l : List En} (hv : IsEnts w v l) (hn : l.length ≤ 1000) (t p : Int) :
    Calls Try.prog 13 #[v, .int .i64 t, .int .i64 p] w fun e w' => ChainR w w' (Ch.stand l t p) e := by
  have HV := Lib.hid hv
  obtain ⟨va, vc, rfl, _⟩ := hv
  obtain ⟨U, hU⟩ : ∃ U, U = Ch.stand l t p := ⟨_, rfl⟩
  rw [← hU]
  have HU := Lib.hid hU
  clear hU
  unfold ChainR
  by_cases hr : Ch.Rises l
  · have RS := Lib.hid (refRises HV.out true (decide_eq_true hr).symm)
    have HR := Lib.hid hr
    clear hr
    go_enter Try.func13, Try.ntmps13
    go_wp2_with fail
    refine RS.out.mono ?_
    rintro e w1 ⟨rfl, hb⟩
    have HB1 := Lib.hid hb
    clear hb RS
    obtain ⟨i0, hi, hz⟩ := Option.map_eq_some_iff.1 infoInt
    simp only [Prod.mk.injEq] at hz
    obtain ⟨hz0, hz1, hz2⟩ := hz
    go_wp2_with fail
    go_loopw [2, 8] (fun vq vo wr => ∃ (pre : List En) (q : Int), vq = .int .i64 q ∧ Way l t true Ch.st0 p pre q ∧ wr.ownsRow w.heap.size 3 1 vo (Ch.upd pre).length (placesV ((Ch.upd pre).map Prod.fst)) ∧ Below w.heap.size w wr) (fun vq _ _ => Ch.rank l (intOf vq))
    case atStart => exact ⟨[], p, rfl, .start l t true Ch.st0 p, World.ownsRow_nil _ _ _ 1, HB1.out⟩
    case round =>
      obtain ⟨pre, q, rfl, hway, hown, hB⟩ := hrel
      have WAY := Lib.hid hway
      have HOW := Lib.hid hown
      have HB := Lib.hid hB
      have hple := Nat.le_trans (upd_len pre) hway.len
      have WOK := Lib.hid hway.ok
      clear hway hown hB
      by_cases hq : q = 0
      · have hqb : (q != 0) = false := by simp [hq]
        have hd := WAY.out.done (by unfold Ch.st0; simp [hq])
        have hUU : U = ((Ch.upd pre).map Prod.fst, 0) := by rw [HU.out]; unfold Ch.stand; simp [HR.out, hd]
        clear hq hd
        subst hUU
        obtain ⟨oa, oc, rfl⟩ := (Elems.ofOwn HOW.out).form
        go_wp2
        go_ret2
        exact ⟨_, rfl, w.heap.size, Nat.le_refl _, HOW.out, HB.out⟩
      · have hqb : (q != 0) = true := by simp [hq]
        have hsq : Ch.st0 q = false := by unfold Ch.st0; simp [hq]
        have C := Lib.hid (refAt (HV.out.keep HB.out) t q)
        rcases hat : Ch.at_ l t q with ⟨r, n⟩
        rw [hat] at C
        by_cases hn0 : n = 0
        · subst hn0
          have hz := Ch.at_zero hat
          have WAY2 := Lib.hid (WAY.out.step hsq hat)
          have HK := kind_ok hz.2.2
          have RK := Lib.hid (Ch.rank_lt (x := (q, r)) hz.1 (Ch.nxt_lt hz.2.2 true))
          clear hq hsq hat hz WAY
          go_wp2_with fail
          refine C.out.mono ?_
          rintro e w2 ⟨hb, vt, vp, la, rfl⟩
          obtain ⟨ta, tc, rfl⟩ := la.t.form
          obtain ⟨pa, pc, rfl⟩ := la.p.form
          have hb2 : Below w.heap.size w w2 := below2 HB.out hb
          have ow2 := own_below HOW.out hb
          have HG2 := Lib.hid (fun b hb => (ow2.lt b hb).2)
          clear la C hb HB HOW
          unfold recV recCells
          obtain ⟨X, hX⟩ : ∃ X : Array Value, X = #[.int .i64 r.kind, .int .i64 r.txn, .int .i64 r.page, .int .i64 r.off, .int .i64 r.prev, .int .i64 r.next, .int .i64 r.beg, .string r.before, .string r.after, .slice ta r.txns.length tc, .slice pa r.pages.length pc] := ⟨_, rfl⟩
          go_upto_region 6 with fail
          rw [← hX]
          have xb := Blk.new w2 45 X
          have bx := hb2.alloc hb2.size (.cells X 45)
          have ox := ow2.alloc (.cells X 45)
          generalize hwx : w2.alloc (.cells X 45) = wx at *
          rw [hX] at xb
          have d0 := xb.cell 0
          have d4 := xb.cell 4
          simp only [List.getElem?_toArray, List.getElem?_cons_zero, List.getElem?_cons_succ] at d0 d4
          have OX := Lib.hid ox
          have BX := Lib.hid bx
          have wxz := bx.size
          have xlt := xb.lt
          rw [hX]
          have XB := Lib.hid xb
          clear hX xb ox bx hwx hb2 ow2
          rcases HK with hk1 | hk2
          · have hkb : (r.kind == 1) = true := by simp [hk1]
            have HK1 := Lib.hid hk1
            have d0b : wx.cell? ⟨w2.heap.size, 0, none⟩ = some (.int .i64 r.kind) := d0
            clear d0
            rw [hk1] at d0b
            clear hk1 hkb
            go_wp2_with (at_builtin; refine wpList_append_own_at _ rfl (.tmp 29) (.tmp 31) 25 rfl w.heap.size 3 i0 _ 1 8 Try.underlying25 hi hz0 hz1 hz2 rfl (by decide) _ _ _ rfl (OX.out.alloc _) ⟨wx.heap.size, 0, none⟩ 1 1 [.int .i64 q] rfl rfl (World.news_of_block (Blk.new _ _ _)) (by simp [Value.oneCell']) (by simp only [maxLen]; omega) (by omega) (by simp; omega) ?_; intro v' w6 hown' hgrow _ _; obtain ⟨g', cap', rfl⟩ := ownsRow_succ hown'; have x6 : Blk w6 w2.heap.size 45 _ := (hgrow.block w2.heap.size (by simp; omega) (fun e => by have := HG2.out _ e.symm; omega)).trans (XB.out.alloc _); have e4 := x6.cell 4; simp only [List.getElem?_toArray, List.getElem?_cons_zero, List.getElem?_cons_succ] at e4; have HB6 : Below w.heap.size w w6 := (BX.out.alloc wxz _).grown hgrow (by simp; omega) fun j ej => (OX.out.lt j ej).1; have HB7 := Lib.hid HB6; have OW6 := Lib.hid hown'; clear HB6 hown' x6 hgrow)
            have hnx : Ch.nxt true r = r.prev := if_neg (by rw [HK1.out]; simp)
            have way2 := WAY2.out
            have rk := RK.out
            rw [hnx] at way2 rk
            refine ⟨⟨pre ++ [(q, r)], r.prev, rfl, way2, ?_, HB7.out⟩, rk⟩
            rw [upd_take HK1.out, List.map_append, List.length_append]
            exact (placesV_snoc _ q).symm ▸ OW6.out
          · have HK2 := Lib.hid hk2
            rw [hk2] at d0
            have d5 := XB.out.cell 5
            simp only [List.getElem?_toArray, List.getElem?_cons_zero, List.getElem?_cons_succ] at d5
            clear hk2
            go_wp2
            have hnx : Ch.nxt true r = r.next := if_pos ⟨rfl, HK2.out⟩
            have way2 := WAY2.out
            have rk := RK.out
            rw [hnx] at way2 rk
            refine ⟨⟨pre ++ [(q, r)], r.next, rfl, way2, ?_, BX.out⟩, rk⟩
            rw [upd_skip HK2.out]
            exact OX.out
        · have he := WAY.out.err hsq hat hn0
          have hUU : U = ([], n) := by rw [HU.out]; unfold Ch.stand; simp [HR.out, he, hn0]
          have hnb : ((n : Int) != 0) = true := by simp; omega
          clear he hat hq hsq hn0
          subst hUU
          go_wp2_with fail
          refine C.out.mono ?_
          rintro e w2 ⟨hb, vt, vp, la, rfl⟩
          obtain ⟨ta, tc, rfl⟩ := la.t.form
          obtain ⟨pa, pc, rfl⟩ := la.p.form
          have HB2 := Lib.hid (below2 HB.out hb)
          clear la C hb
          unfold recV recCells
          go_wp2
          go_ret2
          exact ⟨_, rfl, w.heap.size, Nat.le_refl _, World.ownsRow_nil _ _ _ 1, HB2.out.alloc HB2.out.size _⟩
  · have RS := Lib.hid (refRises HV.out false (decide_eq_false hr).symm)
    have hUU : U = ([], 3) := by rw [HU.out]; unfold Ch.stand; simp [hr]
    clear hr
    subst hUU
    go_enter Try.func13, Try.ntmps13
    go_wp2_with fail
    refine RS.out.mono ?_
    rintro e w1 ⟨rfl, hb⟩
    have HB1 := Lib.hid hb
    clear hb RS
    go_wp2
    go_ret2
    first | exact ⟨_, rfl, w.heap.size, Nat.le_refl _, World.ownsRow_nil _ _ _ 1, HB1.out⟩ | exact ⟨_, w.heap.size, rfl, Nat.le_refl _, World.ownsRow_nil _ _ _ 1, HB1.out⟩ | exact ⟨_, w.heap.size, Nat.le_refl _, rfl, World.ownsRow_nil _ _ _ 1, HB1.out⟩
set_option maxRecDepth 100000 in
set_option maxHeartbeats 16000000 in
theorem refUndoAll {w : World} {v : Value} {l : List En} (hv : IsEnts w v l) (hn : l.length ≤ 1000) (t p s : Int) :
    Calls Try.prog 15 #[v, .int .i64 t, .int .i64 p, .int .i64 s] w fun e w' => UndoR w w' (Ch.undo l t p s) e := by
  have HV := Lib.hid hv
  obtain ⟨va, vc, rfl, _⟩ := hv
  obtain ⟨U, hU⟩ : ∃ U, U = Ch.undo l t p s := ⟨_, rfl⟩
  rw [← hU]
  have HU := Lib.hid hU
  clear hU
  unfold UndoR
  by_cases hr : Ch.Rises l
  · have RS := Lib.hid (refRises HV.out true (decide_eq_true hr).symm)
    have HR := Lib.hid hr
    clear hr
    go_enter Try.func15, Try.ntmps15
    go_wp2_with fail
    refine RS.out.mono ?_
    rintro e w1 ⟨rfl, hb⟩
    have HB1 := Lib.hid hb
    clear hb RS
    obtain ⟨i0, hi, hz⟩ := Option.map_eq_some_iff.1 infoRec
    simp only [Prod.mk.injEq] at hz
    obtain ⟨hz0, hz1, hz2⟩ := hz
    go_wp2_with fail
    go_loopw [2, 10] (fun vq vo wr => ∃ (pre : List En) (q : Int), vq = .int .i64 q ∧ Way l t true (Ch.stS s) p pre q ∧ wr.ownsRow w.heap.size 45 11 vo (Ch.upd pre).length (recsN ((Ch.upd pre).map (Ch.undoOf t))) ∧ Below w.heap.size w wr) (fun vq _ _ => Ch.rank l (intOf vq))
    case atStart => exact ⟨[], p, rfl, .start l t true (Ch.stS s) p, World.ownsRow_nil _ _ _ 11, HB1.out⟩
    case round =>
      obtain ⟨pre, q, rfl, hway, hown, hB⟩ := hrel
      have WAY := Lib.hid hway
      have HOW := Lib.hid hown
      have HB := Lib.hid hB
      have hple := Nat.le_trans (upd_len pre) hway.len
      have WOK := Lib.hid hway.ok
      clear hway hown hB
      by_cases hq : q = 0 ∨ q ≤ s
      · have hqb : (q != 0) = false ∨ ((q != 0) = true ∧ decide (s < q) = false) := by
          by_cases h0 : q = 0
          · exact .inl (by simp [h0])
          · exact .inr ⟨by simp [h0], by rw [decide_eq_false_iff_not]; omega⟩
        have hd := WAY.out.done (by unfold Ch.stS; rcases hq with h | h <;> simp [h])
        have hUU : U = ((Ch.upd pre).map (Ch.undoOf t), 0) := by rw [HU.out]; unfold Ch.undo; simp [HR.out, hd]
        clear hq hd
        subst hUU
        obtain ⟨oa, oc, rfl⟩ := (Elems.ofOwn HOW.out).form
        rcases hqb with hqb | ⟨hqb, hqs⟩
        all_goals
          go_wp2
          go_ret2
          exact ⟨_, rfl, w.heap.size, Nat.le_refl _, HOW.out, HB.out⟩
      · have hqb : (q != 0) = true := by simp; omega
        have hqs : decide (s < q) = true := by rw [decide_eq_true_eq]; omega
        have hsq : (Ch.stS s) q = false := by unfold Ch.stS; simp; omega
        have C := Lib.hid (refAt (HV.out.keep HB.out) t q)
        rcases hat : Ch.at_ l t q with ⟨r, n⟩
        rw [hat] at C
        by_cases hn0 : n = 0
        · subst hn0
          have hz := Ch.at_zero hat
          have WAY2 := Lib.hid (WAY.out.step hsq hat)
          have HK := kind_ok hz.2.2
          have RK := Lib.hid (Ch.rank_lt (x := (q, r)) hz.1 (Ch.nxt_lt hz.2.2 true))
          clear hq hsq hat hz WAY
          go_wp2_with fail
          refine C.out.mono ?_
          rintro e w2 ⟨hb, vt, vp, la, rfl⟩
          obtain ⟨ta, tc, rfl⟩ := la.t.form
          obtain ⟨pa, pc, rfl⟩ := la.p.form
          have hb2 : Below w.heap.size w w2 := below2 HB.out hb
          have ow2 := own_below HOW.out hb
          have HG2 := Lib.hid (fun b hb => (ow2.lt b hb).2)
          clear la C hb HB HOW
          unfold recV recCells
          obtain ⟨X, hX⟩ : ∃ X : Array Value, X = #[.int .i64 r.kind, .int .i64 r.txn, .int .i64 r.page, .int .i64 r.off, .int .i64 r.prev, .int .i64 r.next, .int .i64 r.beg, .string r.before, .string r.after, .slice ta r.txns.length tc, .slice pa r.pages.length pc] := ⟨_, rfl⟩
          go_upto_region 6 with fail
          rw [← hX]
          have xb := Blk.new w2 45 X
          have bx := hb2.alloc hb2.size (.cells X 45)
          have ox := ow2.alloc (.cells X 45)
          generalize hwx : w2.alloc (.cells X 45) = wx at *
          rw [hX] at xb
          have d0 := xb.cell 0
          have d4 := xb.cell 4
          have d2 := xb.cell 2
          have d3 := xb.cell 3
          have d7 := xb.cell 7
          simp only [List.getElem?_toArray, List.getElem?_cons_zero, List.getElem?_cons_succ] at d0 d4 d2 d3 d7
          have OX := Lib.hid ox
          have BX := Lib.hid bx
          have wxz := bx.size
          have xlt := xb.lt
          rw [hX]
          have XB := Lib.hid xb
          clear hX xb ox bx hwx hb2 ow2
          rcases HK with hk1 | hk2
          · have hkb : (r.kind == 1) = true := by simp [hk1]
            have HK1 := Lib.hid hk1
            have d0b : wx.cell? ⟨w2.heap.size, 0, none⟩ = some (.int .i64 r.kind) := d0
            clear d0
            rw [hk1] at d0b
            clear hk1 hkb
            go_wp2_with (at_builtin; refine wpList_append_own_at _ rfl (.tmp 36) (.tmp 47) 33 rfl w.heap.size 45 i0 _ 11 136 Try.underlying33 hi hz0 hz1 hz2 rfl (by decide) _ _ _ rfl (OX.out.alloc _) ⟨wx.heap.size, 0, none⟩ 1 1 [.int .i64 2, .int .i64 t, .int .i64 r.page, .int .i64 r.off, .int .i64 0, .int .i64 r.prev, .int .i64 0, .string ⟨#[]⟩, .string r.before, .slice none 0 0, .slice none 0 0] rfl rfl (World.news_of_block (Blk.new _ _ _)) (by simp [Value.oneCell']) (by simp only [maxLen]; omega) (by omega) (by simp; omega) ?_; intro v' w6 hown' hgrow _ _; obtain ⟨g', cap', rfl⟩ := ownsRow_succ hown'; have x6 : Blk w6 w2.heap.size 45 _ := (hgrow.block w2.heap.size (by simp; omega) (fun e => by have := HG2.out _ e.symm; omega)).trans (XB.out.alloc _); have e4 := x6.cell 4; simp only [List.getElem?_toArray, List.getElem?_cons_zero, List.getElem?_cons_succ] at e4; have HB6 : Below w.heap.size w w6 := (BX.out.alloc wxz _).grown hgrow (by simp; omega) fun j ej => (OX.out.lt j ej).1; have HB7 := Lib.hid HB6; have OW6 := Lib.hid hown'; clear HB6 hown' x6 hgrow)
            have hnx : Ch.nxt true r = r.prev := if_neg (by rw [HK1.out]; simp)
            have way2 := WAY2.out
            have rk := RK.out
            rw [hnx] at way2 rk
            refine ⟨⟨pre ++ [(q, r)], r.prev, rfl, way2, ?_, HB7.out⟩, rk⟩
            rw [upd_take HK1.out, List.map_append, List.length_append]
            exact (recsN_snoc _ (Ch.undoOf t (q, r))).symm ▸ OW6.out
          · have HK2 := Lib.hid hk2
            rw [hk2] at d0
            have d5 := XB.out.cell 5
            simp only [List.getElem?_toArray, List.getElem?_cons_zero, List.getElem?_cons_succ] at d5
            clear hk2
            go_wp2
            have hnx : Ch.nxt true r = r.next := if_pos ⟨rfl, HK2.out⟩
            have way2 := WAY2.out
            have rk := RK.out
            rw [hnx] at way2 rk
            refine ⟨⟨pre ++ [(q, r)], r.next, rfl, way2, ?_, BX.out⟩, rk⟩
            rw [upd_skip HK2.out]
            exact OX.out
        · have he := WAY.out.err hsq hat hn0
          have hUU : U = ([], n) := by rw [HU.out]; unfold Ch.undo; simp [HR.out, he, hn0]
          have hnb : ((n : Int) != 0) = true := by simp; omega
          clear he hat hq hsq hn0
          subst hUU
          go_wp2_with fail
          refine C.out.mono ?_
          rintro e w2 ⟨hb, vt, vp, la, rfl⟩
          obtain ⟨ta, tc, rfl⟩ := la.t.form
          obtain ⟨pa, pc, rfl⟩ := la.p.form
          have HB2 := Lib.hid (below2 HB.out hb)
          clear la C hb
          unfold recV recCells
          go_wp2
          go_ret2
          exact ⟨_, rfl, w.heap.size, Nat.le_refl _, World.ownsRow_nil _ _ _ 11, HB2.out.alloc HB2.out.size _⟩
  · have RS := Lib.hid (refRises HV.out false (decide_eq_false hr).symm)
    have hUU : U = ([], 3) := by rw [HU.out]; unfold Ch.undo; simp [hr]
    clear hr
    subst hUU
    go_enter Try.func15, Try.ntmps15
    go_wp2_with fail
    refine RS.out.mono ?_
    rintro e w1 ⟨rfl, hb⟩
    have HB1 := Lib.hid hb
    clear hb RS
    go_wp2
    go_ret2
    first | exact ⟨_, rfl, w.heap.size, Nat.le_refl _, World.ownsRow_nil _ _ _ 11, HB1.out⟩ | exact ⟨_, w.heap.size, rfl, Nat.le_refl _, World.ownsRow_nil _ _ _ 11, HB1.out⟩ | exact ⟨_, w.heap.size, Nat.le_refl _, rfl, World.ownsRow_nil _ _ _ 11, HB1.out⟩
end Go.Proofs.Ytecalnglidjmgaa
