/- The walk of ChainOther. -/
import Derived.Test.YtecalnglidjmgaaChQ
namespace Go.Proofs.Ytecalnglidjmgaa
open Go.RowKit

/-- An entry as it lies in memory. -/
structure Qx where
  at_ : Int
  r : Rc
  vt : Value
  vp : Value
def Qx.ent (x : Qx) : En := (x.at_, x.r)
def Qx.cells (x : Qx) : List Value := (entCells x.at_ x.r x.vt x.vp).toList
theorem Qx.cells_len (x : Qx) : x.cells.length = 12 := rfl
def qV (q : List Qx) : List Value := q.flatMap Qx.cells
theorem qV_snoc (q : List Qx) (x : Qx) : qV (q ++ [x]) = qV q ++ x.cells := by simp [qV]
theorem qV_len (q : List Qx) : (qV q).length = q.length * 12 := by
  induction q with
  | nil => rfl
  | cons x q ih => show (x.cells ++ qV q).length = _; rw [List.length_append, ih, Qx.cells_len, List.length_cons]; omega
theorem qV_at : ∀ (q : List Qx) (j : Nat) (h : j < q.length) (i : Nat) (_ : i < 12), (qV q)[j * 12 + i]? = q[j].cells[i]?
  | [], j, h, _, _ => by simp at h
  | x :: q, 0, _, i, hi => by
    show (x.cells ++ qV q)[0 * 12 + i]? = x.cells[i]?
    rw [List.getElem?_append_left (by rw [Qx.cells_len]; omega)]
    simp
  | x :: q, j + 1, h, i, hi => by
    show (x.cells ++ qV q)[(j + 1) * 12 + i]? = _
    rw [List.getElem?_append_right (by rw [Qx.cells_len]; omega), Qx.cells_len, show (j + 1) * 12 + i - 12 = j * 12 + i by omega, qV_at q j (by simpa using h) i hi]
    rfl
theorem qEnts {w : World} {B : Nat} {v : Value} {q : List Qx} (h : w.ownsRow B 47 12 v q.length (qV q)) (hl : ∀ x ∈ q, Lists w x.r x.vt x.vp) : IsEnts w v (q.map Qx.ent) := by
  have hE := Elems.ofOwn h
  obtain ⟨a, cap, rfl, h1, h2, hx⟩ := hE
  refine ⟨a, cap, by simp, by simpa using h1, h2, fun j hj => ?_⟩
  have hj' : j < q.length := by simpa using hj
  have he : (q.map Qx.ent)[j] = (q[j].at_, q[j].r) := by simp [Qx.ent]
  have hc : ∀ i u, i < 12 → q[j].cells[i]? = some u → ∃ b off, a = some ⟨b, off, none⟩ ∧ w.cell? ⟨b, off + j * 12 + i, none⟩ = some u := fun i u hi hu => by
    obtain ⟨b, off, e, hcell⟩ := hx (j * 12 + i) u (by rw [qV_at q j hj' i hi]; exact hu)
    exact ⟨b, off, e, by rw [Nat.add_assoc]; exact hcell⟩
  obtain ⟨b, off, rfl, h0⟩ := hc 0 _ (by omega) rfl
  have hc2 : ∀ i u, i < 12 → q[j].cells[i]? = some u → w.cell? ⟨b, off + j * 12 + i, none⟩ = some u := fun i u hi hu => by
    obtain ⟨b', off', e, hcell⟩ := hc i u hi hu
    simp only [Option.some.injEq, Addr.mk.injEq, and_true] at e
    obtain ⟨rfl, rfl⟩ := e
    exact hcell
  refine ⟨b, off, q[j].vt, q[j].vp, rfl, World.block_lt_of_cell? w ⟨b, off + j * 12 + 0, none⟩ h0, ?_, fun i u hu => ?_, ?_⟩
  · rw [he]; exact h0
  · rw [he] at hu
    have hi : i < 11 := by
      have := (Array.getElem?_eq_some_iff.1 hu).1
      rwa [recCells_size] at this
    rw [show off + j * 12 + 1 + i = off + j * 12 + (i + 1) by omega]
    refine hc2 (i + 1) u (by omega) ?_
    rw [← hu, ← Array.getElem?_toList]
    rfl
  · rw [he]; exact hl _ (List.getElem_mem hj')
theorem infoEnt : (Try.prog.info? 47).map (fun i => (i.zero, i.size, i.bytes)) = some (some (.agg #[.int .i64 0, .int .i64 0, .int .i64 0, .int .i64 0, .int .i64 0, .int .i64 0, .int .i64 0, .int .i64 0, .string ⟨#[]⟩, .string ⟨#[]⟩, .slice none 0 0, .slice none 0 0]), 12, 144) := by kernel_rfl

set_option maxRecDepth 100000 in
set_option maxHeartbeats 16000000 in
theorem walkChainOther (v : Value) (l : List Ent) (last : Int) (w : World) (hv : IsEnts w v l ∧ ∀ x ∈ l, Sized x.2) (_ : (Lit.int .i64 last).wf = true) :
    Calls Try.prog 6 #[v, .int .i64 last] w fun e w' => e = .returned (.bool true) ∧ Below w.heap.size w w' := by
  obtain ⟨hv, hz⟩ := hv
  have HV := Lib.hid hv
  obtain ⟨va, vc, rfl, hvc, _, hx⟩ := hv
  have HX := Lib.hid hx
  have AW := Lib.hid (awake11 w)
  by_cases hf : FewL l
  · have HF := Lib.hid hf
    have hn : l.length ≤ 200 := hf.1
    have FW := Lib.hid (fun (W : World) (h : IsEnts W (.slice va l.length vc) l) => refFew h hz true ⟨fun _ => hf, fun _ => rfl⟩)
    clear hz hf hx
    go_enter Try.func6, Try.ntmps6
    go_wp2_with fail
    refine AW.out.mono ?_
    rintro e w1 ⟨rfl, hb⟩
    have H1 := Lib.hid (HV.out.keep hb)
    have HB1 := Lib.hid hb
    clear hb AW
    go_wp2_with fail
    refine (FW.out _ H1.out).mono ?_
    rintro e w2 ⟨rfl, hb⟩
    have H2 := Lib.hid (H1.out.keep hb)
    have HB2 := Lib.hid (below2 HB1.out hb)
    clear hb FW H1 HB1
    by_cases hr : Ch.Rises l
    · have RS := Lib.hid (refRises H2.out true (decide_eq_true hr).symm)
      have HR := Lib.hid hr
      clear hr
      go_wp2_with fail
      refine RS.out.mono ?_
      rintro e w3 ⟨rfl, hb⟩
      have H3 := Lib.hid (H2.out.keep hb)
      have HB3 := Lib.hid (below2 HB2.out hb)
      clear hb RS H2 HB2
      obtain ⟨i0, hi, hz⟩ := Option.map_eq_some_iff.1 infoEnt
      simp only [Prod.mk.injEq] at hz
      obtain ⟨hz0, hz1, hz2⟩ := hz
      go_wp2_with fail
      go_loopw [5, 27] (fun vo vk wr => ∃ (k : Nat) (q : List Qx), vk = .int .i64 k ∧ k ≤ l.length ∧ wr.ownsRow w.heap.size 47 12 vo q.length (qV q) ∧ q.length ≤ k ∧ q.map Qx.ent = (l.take k).filter (fun x => x.2.txn == 1) ∧ (∀ x ∈ q, Lists w x.r x.vt x.vp) ∧ Below w.heap.size w wr) (fun _ vk _ => l.length - (intOf vk).toNat)
      case atStart => exact ⟨0, [], rfl, Nat.zero_le _, World.ownsRow_nil _ _ _ 12, Nat.le_refl _, rfl, nofun, HB3.out⟩
      case round =>
        obtain ⟨k, q, rfl, hk, hown, hqk, hq, hql, hB⟩ := hrel
        have HOW := Lib.hid hown
        have HQ := Lib.hid hq
        have HQL := Lib.hid hql
        have HB := Lib.hid hB
        clear hown hq hql hB
        by_cases hlt : k < l.length
        · have hwz := HB.out.size
          obtain ⟨b, off, vt, vp, rfl, lt1, la, ci⟩ := HX.out.whole k hlt
          obtain ⟨x, hxx⟩ : ∃ x, x = l[k].1 := ⟨_, rfl⟩
          obtain ⟨r, hrr⟩ : ∃ r, r = l[k].2 := ⟨_, rfl⟩
          rw [← hxx, ← hrr] at ci
          rw [← hrr] at la
          have HXR := Lib.hid (show l[k] = (x, r) from Prod.ext hxx.symm hrr.symm)
          have HTK := Lib.hid (show l.take (k + 1) = l.take k ++ [l[k]] from by rw [List.take_add_one, List.getElem?_eq_getElem hlt]; rfl)
          have HLA := Lib.hid la
          obtain ⟨ta, tc, e1⟩ := la.t.form
          obtain ⟨pa, pc, e2⟩ := la.p.form
          subst e1 e2
          have c0 : wr.cell? ⟨b, off + k * 12, none⟩ = some (.int .i64 x) := (HB.out.cell (p := ⟨b, off + k * 12 + 0, none⟩) lt1).trans (ci 0 _ rfl)
          have c1 : wr.cell? ⟨b, off + k * 12 + 1, none⟩ = some (.int .i64 r.kind) := (HB.out.cell (p := ⟨b, off + k * 12 + 1, none⟩) lt1).trans (ci 1 _ rfl)
          have c2 : wr.cell? ⟨b, off + k * 12 + 2, none⟩ = some (.int .i64 r.txn) := (HB.out.cell (p := ⟨b, off + k * 12 + 2, none⟩) lt1).trans (ci 2 _ rfl)
          have c3 : wr.cell? ⟨b, off + k * 12 + 3, none⟩ = some (.int .i64 r.page) := (HB.out.cell (p := ⟨b, off + k * 12 + 3, none⟩) lt1).trans (ci 3 _ rfl)
          have c4 : wr.cell? ⟨b, off + k * 12 + 4, none⟩ = some (.int .i64 r.off) := (HB.out.cell (p := ⟨b, off + k * 12 + 4, none⟩) lt1).trans (ci 4 _ rfl)
          have c5 : wr.cell? ⟨b, off + k * 12 + 5, none⟩ = some (.int .i64 r.prev) := (HB.out.cell (p := ⟨b, off + k * 12 + 5, none⟩) lt1).trans (ci 5 _ rfl)
          have c6 : wr.cell? ⟨b, off + k * 12 + 6, none⟩ = some (.int .i64 r.next) := (HB.out.cell (p := ⟨b, off + k * 12 + 6, none⟩) lt1).trans (ci 6 _ rfl)
          have c7 : wr.cell? ⟨b, off + k * 12 + 7, none⟩ = some (.int .i64 r.beg) := (HB.out.cell (p := ⟨b, off + k * 12 + 7, none⟩) lt1).trans (ci 7 _ rfl)
          have c8 : wr.cell? ⟨b, off + k * 12 + 8, none⟩ = some (.string r.before) := (HB.out.cell (p := ⟨b, off + k * 12 + 8, none⟩) lt1).trans (ci 8 _ rfl)
          have c9 : wr.cell? ⟨b, off + k * 12 + 9, none⟩ = some (.string r.after) := (HB.out.cell (p := ⟨b, off + k * 12 + 9, none⟩) lt1).trans (ci 9 _ rfl)
          have c10 : wr.cell? ⟨b, off + k * 12 + 10, none⟩ = some (.slice ta r.txns.length tc) := (HB.out.cell (p := ⟨b, off + k * 12 + 10, none⟩) lt1).trans (ci 10 _ rfl)
          have c11 : wr.cell? ⟨b, off + k * 12 + 11, none⟩ = some (.slice pa r.pages.length pc) := (HB.out.cell (p := ⟨b, off + k * 12 + 11, none⟩) lt1).trans (ci 11 _ rfl)
          clear ci la hxx hrr lt1
          by_cases ht : r.txn = 1
          · have htt : (r.txn == 1) = true := by simp [ht]
            have HT := Lib.hid htt
            rw [ht] at c2
            clear ht htt
            go_upto_region 8 with fail
            obtain ⟨X, hX⟩ : ∃ X : Array Value, X = #[.int .i64 x, .int .i64 r.kind, .int .i64 1, .int .i64 r.page, .int .i64 r.off, .int .i64 r.prev, .int .i64 r.next, .int .i64 r.beg, .string r.before, .string r.after, .slice ta r.txns.length tc, .slice pa r.pages.length pc] := ⟨_, rfl⟩
            rw [← hX]
            have xb := Blk.new wr 47 X
            have bx : Below w.heap.size w (wr.alloc (.cells X 47)) := HB.out.alloc hwz _
            have ox := HOW.out.alloc (.cells X 47)
            generalize hwx : wr.alloc (.cells X 47) = wx at *
            clear hwx c0 c1 c2 c3 c4 c5 c6 c7 c8 c9 c10 c11
            rw [hX] at xb
            have d0 := xb.cell 0
            have d1 := xb.cell 1
            have d2 := xb.cell 2
            have d3 := xb.cell 3
            have d4 := xb.cell 4
            have d5 := xb.cell 5
            have d6 := xb.cell 6
            have d7 := xb.cell 7
            have d8 := xb.cell 8
            have d9 := xb.cell 9
            have d10 := xb.cell 10
            have d11 := xb.cell 11
            simp only [List.getElem?_toArray, List.getElem?_cons_zero, List.getElem?_cons_succ] at d0 d1 d2 d3 d4 d5 d6 d7 d8 d9 d10 d11
            have OX := Lib.hid ox
            have BX := Lib.hid bx
            have wxz := bx.size
            rw [hX]
            clear hX xb ox bx
            go_wp2_with (at_builtin; refine wpList_append_own_at _ rfl (.tmp 35) (.tmp 37) 22 rfl w.heap.size 47 i0 _ 12 144 Try.underlying22 hi hz0 hz1 hz2 rfl (by decide) _ _ _ rfl (OX.out.alloc _) ⟨wx.heap.size, 0, none⟩ 1 1 [.int .i64 x, .int .i64 r.kind, .int .i64 1, .int .i64 r.page, .int .i64 r.off, .int .i64 r.prev, .int .i64 r.next, .int .i64 r.beg, .string r.before, .string r.after, .slice ta r.txns.length tc, .slice pa r.pages.length pc] rfl rfl (World.news_of_block (Blk.new _ _ _)) (by simp [Value.oneCell']) (by simp only [maxLen]; omega) (by omega) (by simp; omega) ?_; intro v' w6 hown' hgrow _ _; obtain ⟨g', cap', rfl⟩ := ownsRow_succ hown')
            have hB6 : Below w.heap.size w w6 := (BX.out.alloc wxz _).grown hgrow (by simp; omega) fun j ej => (OX.out.lt j ej).1
            refine ⟨⟨k + 1, q ++ [⟨x, r, .slice ta r.txns.length tc, .slice pa r.pages.length pc⟩], by simp, hlt, ?_, by simp; omega, ?_, ?_, hB6⟩, by simp [intOf]; omega⟩
            · rw [qV_snoc, List.length_append]
              show w6.ownsRow _ _ _ _ (q.length + 1) (qV q ++ [.int .i64 x, .int .i64 r.kind, .int .i64 r.txn, .int .i64 r.page, .int .i64 r.off, .int .i64 r.prev, .int .i64 r.next, .int .i64 r.beg, .string r.before, .string r.after, .slice ta r.txns.length tc, .slice pa r.pages.length pc])
              rw [show r.txn = 1 by simpa using HT.out]
              exact hown'
            · have h1 := HQ.out
              rw [HTK.out, List.filter_append, List.map_append, ← h1, HXR.out, List.filter_cons_of_pos (p := fun x : En => x.2.txn == 1) HT.out]
              rfl
            · intro y hy
              rcases List.mem_append.1 hy with hy | hy
              · exact HQL.out y hy
              · rw [List.mem_singleton.1 hy]; exact HLA.out
          · have htt : (r.txn == 1) = false := by simp [ht]
            have HT := Lib.hid htt
            clear ht
            go_wp2_with fail
            refine ⟨⟨k + 1, q, by simp, hlt, HOW.out.alloc _, by omega, ?_, HQL.out, HB.out.alloc hwz _⟩, by simp [intOf]; omega⟩
            have h1 := HQ.out
            rw [HTK.out, List.filter_append, ← h1, HXR.out, List.filter_cons_of_neg (p := fun x : En => x.2.txn == 1) (by show ¬ (r.txn == 1) = true; rw [HT.out]; decide)]
            simp
        · obtain rfl : k = l.length := by omega
          have HVR := Lib.hid (HV.out.keep HB.out)
          have hq2 := HQ.out
          rw [List.take_length] at hq2
          have hown2 := qEnts HOW.out (fun x hx => (HQL.out x hx).keep HB.out)
          rw [hq2] at hown2
          obtain ⟨m, hm⟩ : ∃ m, m = l.filter (fun x => x.2.txn == 1) := ⟨_, rfl⟩
          rw [← hm] at hown2
          have HO := Lib.hid hown2
          have hml : m.length ≤ 200 := by rw [hm]; exact Nat.le_trans (List.length_filter_le _ _) hn
          have hms : ∀ x ∈ m, x.2.before.size ≤ 300 := fun x hx => by rw [hm] at hx; exact fit_small HF.out x (List.mem_filter.1 hx).1
          have HMS := Lib.hid hms
          have OT := Lib.hid (show (Ch.undo l 1 last 0).2 = 0 → Ch.undo m 1 last 0 = Ch.undo l 1 last 0 from fun h => by rw [hm]; exact Ch.other h)
          obtain ⟨oa, oc, rfl⟩ : ∃ oa oc, u5 = .slice oa m.length oc := by
            obtain ⟨a, c, e, _⟩ := hown2
            exact ⟨a, c, e⟩
          have RW := Lib.hid (und_rows l 1 last 0)
          clear hq2 hown2 HOW HQ HQL hi hz0 hz1 hz2 hm hms
          go_wp2_with fail
          refine (chUndoAll HVR.out (by omega) (fit_small HF.out) 1 last 0).mono ?_
          rintro e w5 ⟨x, B', rfl, hB, hx, hb⟩
          obtain ⟨X, hX⟩ : ∃ X, X = (Ch.undo l 1 last 0).1 := ⟨_, rfl⟩
          obtain ⟨E1, hE1⟩ : ∃ E1, E1 = (Ch.undo l 1 last 0).2 := ⟨_, rfl⟩
          have hXE : Ch.undo l 1 last 0 = (X, E1) := by rw [hX, hE1]
          rw [hXE] at hx RW OT ⊢
          have EX := Lib.hid (show RecsE w5 x X from Elems.ofOwn hx)
          obtain ⟨xa, xc, rfl⟩ := Elems.form EX.out
          have HO5 := Lib.hid (HO.out.keep hb)
          have HB5 := Lib.hid (below2 HB.out hb)
          clear hb hx hB hX hE1 hXE HO HVR HB
          go_wp2_with fail
          refine (chUndoAll HO5.out (by omega) HMS.out 1 last 0).mono ?_
          rintro e w6 ⟨y, B'', rfl, hB, hy, hb⟩
          have EX6 := Lib.hid (Elems.keep EX.out hb)
          have HB6 := Lib.hid (below2 HB5.out hb)
          clear hb HO5 HB5 EX
          by_cases h1 : E1 = 0
          · have hb1 : ((E1 : Int) != 0) = false := by simp [h1]
            have eo := OT.out h1
            rw [eo, h1] at hy ⊢
            have EY := Lib.hid (show RecsE w6 y X from Elems.ofOwn hy)
            obtain ⟨ya, yc, rfl⟩ := Elems.form EY.out
            clear eo hy hB OT h1
            go_wp2_with fail
            refine (refSame11 EX6.out EY.out RW.out).mono ?_
            rintro e w7 ⟨rfl, hb⟩
            have HB7 := Lib.hid (below2 HB6.out hb)
            clear hb
            go_wp2
            go_ret
            exact ⟨rfl, HB7.out⟩
          · have hb1 : ((E1 : Int) != 0) = true := by simp; omega
            obtain ⟨ya, yc, rfl⟩ := (Elems.ofOwn hy).form
            generalize (Ch.undo m 1 last 0).1.length = my at *
            generalize (Ch.undo m 1 last 0).2 = ey at *
            clear hy hB OT h1
            go_wp2
            go_ret
            exact ⟨rfl, HB6.out⟩
    · have RS := Lib.hid (refRises H2.out false (decide_eq_false hr).symm)
      clear hr
      go_wp2_with fail
      refine RS.out.mono ?_
      rintro e w3 ⟨rfl, hb⟩
      have HB3 := Lib.hid (below2 HB2.out hb)
      clear hb RS H2 HB2
      go_wp2_with fail
      refine (awake11 w3).mono ?_
      rintro e w4 ⟨rfl, hb⟩
      have HB4 := Lib.hid (below2 HB3.out hb)
      clear hb
      go_wp2
      go_ret
      exact ⟨rfl, HB4.out⟩
  · have FW := Lib.hid (fun (W : World) (h : IsEnts W (.slice va l.length vc) l) => refFew h hz false ⟨fun h => by simp at h, fun h => absurd h hf⟩)
    clear hz hf
    go_enter Try.func6, Try.ntmps6
    go_wp2_with fail
    refine AW.out.mono ?_
    rintro e w1 ⟨rfl, hb⟩
    have H1 := Lib.hid (HV.out.keep hb)
    have HB1 := Lib.hid hb
    clear hb AW
    go_wp2_with fail
    refine (FW.out _ H1.out).mono ?_
    rintro e w2 ⟨rfl, hb⟩
    have HB2 := Lib.hid (below2 HB1.out hb)
    clear hb FW H1 HB1
    go_wp2_with fail
    refine (awake11 w2).mono ?_
    rintro e w3 ⟨rfl, hb⟩
    have HB3 := Lib.hid (below2 HB2.out hb)
    clear hb
    go_wp2
    go_ret
    exact ⟨rfl, HB3.out⟩
end Go.Proofs.Ytecalnglidjmgaa
