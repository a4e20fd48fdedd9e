/- Package analysis: merge, in memory. -/
import Derived.Test.YtgjkhjlobfblcaaAsC
import Derived.Test.YtgjkhjlobfblcaaRegionW
namespace Go.Proofs.Ytgjkhjlobfblcaa
open Go.RowKit Go.MapKept
set_option linter.unusedSimpArgs false

theorem IsTa.cellNe {w : World} {mt mp : Nat} {s : An.Ta} (h : IsTa w mt mp s) {b i : Nat} {x : Value} (hc : w.cell? ⟨b, i, none⟩ = some x) : ¬ Two mt mp b := by
  have no : ∀ m f, BMap w m f → b ≠ m := by
    rintro m f ⟨es, c, hb, _⟩ rfl
    unfold World.cell? at hc
    simp only [hb] at hc
    cases hc
  exact fun e => e.elim (no _ _ h.t) (no _ _ h.p)
theorem Elems.keepA {w w' : World} {mt mp : Nat} {s : An.Ta} {v : Value} {n : Nat} {xs : List Value} (h : Elems w v n xs) (ha : IsTa w mt mp s) (hb : Only (Two mt mp) w w') : Elems w' v n xs :=
  h.keepS hb fun hx b hv => by
    obtain ⟨b', off, cap, rfl, _, _, _, hc⟩ := h.cases hx
    simp only [Value.ownBlock, Option.some.injEq] at hv
    subst hv
    cases xs with
    | nil => exact absurd rfl hx
    | cons x xs => exact ha.cellNe (hc 0 x rfl)
theorem Lists.keepA13 {w w' : World} {mt mp : Nat} {s : An.Ta} {r : Rc} {vt vp : Value} (h : Lists w r vt vp) (ha : IsTa w mt mp s) (hb : Only (Two mt mp) w w') : Lists w' r vt vp := ⟨h.t.keepA ha hb, h.p.keepA ha hb⟩
theorem min_run (x y : Int) (w : World) : (Builtin.min_ #[3, 3] 3 #[.int .i64 x, .int .i64 y]).run Try.prog w = .ok (.int .i64 (min y x)) w := by
  rw [run_min_int2, show (if y < x then y else x) = min y x by split <;> omega]
theorem max_run (x y : Int) (w : World) : (Builtin.max_ #[3, 3] 3 #[.int .i64 x, .int .i64 y]).run Try.prog w = .ok (.int .i64 (max y x)) w := by
  rw [run_max_int2, show (if y > x then y else x) = max y x by split <;> omega]
theorem take_fold {α β : Type} (f : β → α → β) (b : β) (l : List α) (k : Nat) (h : k < l.length) : (l.take (k + 1)).foldl f b = f ((l.take k).foldl f b) l[k] := by
  rw [List.take_add_one, List.getElem?_eq_getElem h, List.foldl_append]; rfl

set_option maxRecDepth 100000 in
set_option maxHeartbeats 8000000 in
theorem asMerge {w : World} {mt mp : Nat} {s : An.Ta} (h : IsTa w mt mp s) (r : Rc) (vt vp : Value) (hl : Lists w r vt vp) :
    Calls Try.prog 24 #[stV mt mp, recV r vt vp] w (OutA w mt mp ⟨r.txns.foldl An.mergeT s.t, r.pages.foldl An.mergeP s.p⟩) := by
  have HLT := Lib.hid hl
  obtain ⟨ta, tc, rfl⟩ := hl.t.form
  obtain ⟨pa, pc, rfl⟩ := hl.p.form
  have hnt := hl.t.le
  have hnp := hl.p.le
  unfold maxLen at hnt hnp
  clear hl
  unfold recV recCells stV
  obtain ⟨hb, hz, k0, k1⟩ := twoBox w #[.map (some mt), .map (some mp)] #[.int .i64 r.kind, .int .i64 r.txn, .int .i64 r.page, .int .i64 r.off, .int .i64 r.prev, .int .i64 r.next, .int .i64 r.beg, .string r.before, .string r.after, .slice ta r.txns.length tc, .slice pa r.pages.length pc] 54 28
  have hx := h.keep hb
  have HLX := Lib.hid (HLT.out.keep hb)
  clear h HLT
  go_enter Try.func24, Try.ntmps24
  go_upto_region 1 with fail
  generalize (w.alloc (Obj.cells #[.map (some mt), .map (some mp)] 54)).alloc (Obj.cells #[.int .i64 r.kind, .int .i64 r.txn, .int .i64 r.page, .int .i64 r.off, .int .i64 r.prev, .int .i64 r.next, .int .i64 r.beg, .string r.before, .string r.after, .slice ta r.txns.length tc, .slice pa r.pages.length pc] 28) = wx at *
  obtain ⟨g, hg⟩ : ∃ g, w.heap.size = g := ⟨_, rfl⟩
  have HB := Lib.hid hb
  rw [hg] at k0 k1 hz ⊢
  clear hg hb
  have c0 := k0.cell 0
  have c1 := k0.cell 1
  have d9 := k1.cell 9
  have d10 := k1.cell 10
  simp only [List.getElem?_toArray, List.getElem?_cons_zero, List.getElem?_cons_succ] at c0 c1 d9 d10
  have HX := Lib.hid hx
  have K0 := Lib.hid k0
  have K1 := Lib.hid k1
  clear hx k0 k1
  obtain ⟨n, hn⟩ : ∃ n, r.txns.length = n := ⟨_, rfl⟩
  rw [hn] at d9 hnt ⊢
  have HN := Lib.hid hn
  clear hn
  go_wp2_with fail
  go_loopw [15] (fun vi wr => ∃ k : Nat, vi = .int .i64 k ∧ k ≤ n ∧ IsTa wr mt mp ⟨(r.txns.take k).foldl An.mergeT s.t, s.p⟩ ∧ Only (Two mt mp) wx wr) (fun vi _ => n - (intOf vi).toNat)
  case atStart => exact ⟨0, rfl, Nat.zero_le _, HX.out, .refl _ _⟩
  case round =>
    obtain ⟨k, rfl, hk, hR, hO⟩ := hrel
    have HR := Lib.hid hR
    have HO := Lib.hid hO
    clear hR hO
    by_cases hlt : k < n
    · have hx0 := HR.out
      have hlw : r.txns ≠ [] := fun e => by have := HN.out; rw [e] at this; simp at this; omega
      have hel := (HLX.out.t.keepA HX.out HO.out)
      rw [HN.out] at hel
      have hkn : k < r.txns.length := by rw [HN.out]; exact hlt
      obtain ⟨b, off, cap, e0, _, _, hbl, hc⟩ := Elems.at3 (l := r.txns) (by rw [HN.out]; exact hel) hlw
      rw [HN.out] at e0
      obtain ⟨rfl, _, rfl⟩ := Value.slice.inj e0
      obtain ⟨x0, x1, x2⟩ := hc k hkn
      obtain ⟨t, ht⟩ : ∃ t, t = r.txns[k].1 := ⟨_, rfl⟩
      obtain ⟨f, hf⟩ : ∃ f, f = r.txns[k].2.1 := ⟨_, rfl⟩
      obtain ⟨l, hl⟩ : ∃ l, l = r.txns[k].2.2 := ⟨_, rfl⟩
      rw [← ht] at x0
      rw [← hf] at x1
      rw [← hl] at x2
      have HTK : Hid ((r.txns.take (k + 1)).foldl An.mergeT s.t = An.mergeT ((r.txns.take k).foldl An.mergeT s.t) (t, f, l)) := by rw [ht, hf, hl]; exact take_fold _ _ _ _ hkn
      clear e0 hc hel hkn hlw ht hf hl
      obtain ⟨T, hT⟩ : ∃ T, T = (r.txns.take k).foldl An.mergeT s.t := ⟨_, rfl⟩
      rw [← hT] at HR HTK hx0
      clear hT
      have q0 := HO.out.blk K0.out (HX.out.cells1 K0.out)
      have QR := Lib.hid q0
      have c0 := q0.cell 0
      have zr := HO.out.size
      have r4 := Blk.new wr 44 #[.int .i64 t, .int .i64 f, .int .i64 l]
      have b4 : Below wr.heap.size wr (wr.alloc (.cells #[.int .i64 t, .int .i64 f, .int .i64 l] 44)) := (Below.refl _ _).alloc (Nat.le_refl _) _
      have z4 : (wr.alloc (.cells #[.int .i64 t, .int .i64 f, .int .i64 l] 44)).heap.size = wr.heap.size + 1 := by simp
      simp only [List.getElem?_toArray, List.getElem?_cons_zero] at c0
      go_upto_region 4 with fail
      generalize wr.alloc (Obj.cells #[.int .i64 t, .int .i64 f, .int .i64 l] 44) = w4 at *
      have q4 := q0.keep b4 q0.lt
      have X4 := hx0.keep b4
      have lk := X4.lookT_ t
      have c0 := q4.cell 0
      have e0 := r4.cell 0
      have e1 := r4.cell 1
      have e2 := r4.cell 2
      simp only [List.getElem?_toArray, List.getElem?_cons_zero, List.getElem?_cons_succ] at c0 e0 e1 e2
      clear x0 x1 x2 hx0 q0
      simp only at lk
      obtain ⟨g4, hg4⟩ : ∃ g4, wr.heap.size = g4 := ⟨_, rfl⟩
      have HB4 := Lib.hid b4
      rw [hg4] at r4 z4 zr e0 e1 e2 ⊢
      have HG4 := Lib.hid hg4
      clear hg4 b4
      unfold lookT at lk
      cases hf : T t with
      | none =>
        rw [hf] at lk
        simp only [Option.isSome_none] at lk
        have HM : Hid (An.mergeT T (t, f, l) = An.put T t (some (f, l))) := by unfold An.mergeT An.joinT; rw [hf]; rfl
        clear hf
        have b7 : Below w4.heap.size w4 (w4.alloc (.cells #[.int .i64 0, .int .i64 0, .int .i64 0] 44)) := (Below.refl _ _).alloc (Nat.le_refl _) _
        go_upto_region 7 with fail
        generalize w4.alloc (Obj.cells #[.int .i64 0, .int .i64 0, .int .i64 0] 44) = w7 at *
        have q7 := q4.keep b7 q4.lt
        have r7 := r4.keep b7 r4.lt
        have c0 := q7.cell 0
        have e0 := r7.cell 0
        have e1 := r7.cell 1
        have e2 := r7.cell 2
        simp only [List.getElem?_toArray, List.getElem?_cons_zero, List.getElem?_cons_succ] at c0 e0 e1 e2
        obtain ⟨w8, u8, x8, o8, z8⟩ := (X4.keep b7).putT t (f, l)
        simp only at u8
        have X8 := Lib.hid x8
        have O8 := Lib.hid (((HO.out.more HB4.out).more b7).trans o8)
        clear x8 o8 q7 r7 X4 q4 r4 lk b7 HB4
        go_wp2
        refine ⟨⟨k + 1, by simp, hlt, ?_, O8.out⟩, by simp [intOf]; omega⟩
        rw [HTK.out, HM.out]
        exact X8.out
      | some u =>
        rw [hf] at lk
        simp only [Option.isSome_some, tV] at lk
        obtain ⟨u1, hu1⟩ : ∃ u1, u.1 = u1 := ⟨_, rfl⟩
        obtain ⟨u2, hu2⟩ : ∃ u2, u.2 = u2 := ⟨_, rfl⟩
        rw [hu1, hu2] at lk
        obtain ⟨m, hm⟩ : ∃ m, m = min u1 f := ⟨_, rfl⟩
        obtain ⟨M, hM⟩ : ∃ M, M = max u2 l := ⟨_, rfl⟩
        have HM : Hid (An.mergeT T (t, f, l) = An.put T t (some (m, M))) := by unfold An.mergeT An.joinT; rw [hf, hm, hM, ← hu1, ← hu2]; rfl
        have rmin := min_run f u1
        have rmax := max_run l u2
        rw [← hm] at rmin
        rw [← hM] at rmax
        clear hf hu1 hu2 hm hM
        have r6 := Blk.new w4 44 #[.int .i64 t, .int .i64 u1, .int .i64 u2]
        have b7 : Below w4.heap.size w4 (w4.alloc (.cells #[.int .i64 t, .int .i64 u1, .int .i64 u2] 44)) := (Below.refl _ _).alloc (Nat.le_refl _) _
        go_upto_region 6 with fail
        generalize w4.alloc (Obj.cells #[.int .i64 t, .int .i64 u1, .int .i64 u2] 44) = w7 at *
        have q7 := q4.keep b7 q4.lt
        have r7 := r4.keep b7 r4.lt
        rw [z4] at r6
        have X7 := X4.keep b7
        have G5 := X7.cells1 r7
        have HE := Lib.hid (And.intro r7 r6)
        have HQ := Lib.hid q7
        have HB7 := Lib.hid b7
        have HX7 := Lib.hid X7
        clear X7 q4 r4 lk b7 X4 e0 e1 e2 c0 q7 r7 r6
        refine' wp_region_late 13 11 (· = g4) (fun W => Blk W g4 44 #[.int .i64 t, .int .i64 f, .int .i64 l]) (fun W => Blk W g4 44 #[.int .i64 t, .int .i64 m, .int .i64 l]) (.pointer (some ⟨g4, 1, none⟩) :: .int .i64 f :: .pointer (some ⟨g4 + 1, 1, none⟩) :: .int .i64 u1 :: .int .i64 m :: .pointer (some ⟨g4, 2, none⟩) :: .int .i64 l :: .pointer (some ⟨g4 + 1, 2, none⟩) :: .int .i64 u2 :: .int .i64 M :: .pointer (some ⟨g4, 1, none⟩) :: undef :: .pointer (some ⟨g4, 2, none⟩) :: []) (by kernel_rfl) (by kernel_rfl) (by kernel_rfl) (by kernel_rfl) (by kernel_rfl) rfl HE.out.1 (fun W W' hb h => h.keep hb h.lt) (fun W W' hb h => h.keep hb h.lt) ?main
        case main =>
          refine obsT_step (by decide) rfl (fun w9 hE9 => ?_) (by simp only [Act.put, List.setIfInBounds_toArray, List.set_cons_zero, List.set_cons_succ]; rfl) ?_
          · go_wp2
            refine postT_eq ?_ (Below.refl _ _)
            simp only [Act.put, List.setIfInBounds_toArray, List.set_cons_zero, List.set_cons_succ]
            try rfl
          refine obsT_step_read (by decide) (by kernel_rfl) rfl (fun w9 hE9 q9 => ?_) (by simp only [Act.put, List.setIfInBounds_toArray, List.set_cons_zero, List.set_cons_succ]; rfl) ?_
          · have e1 := q9.cell 1
            simp only [List.getElem?_toArray, List.getElem?_cons_zero, List.getElem?_cons_succ] at e1
            clear q9 hE9
            go_wp2
            refine postT_eq ?_ (Below.refl _ _)
            simp only [Act.put, List.setIfInBounds_toArray, List.set_cons_zero, List.set_cons_succ]
            try rfl
          refine obsT_step (by decide) rfl (fun w9 hE9 => ?_) (by simp only [Act.put, List.setIfInBounds_toArray, List.set_cons_zero, List.set_cons_succ]; rfl) ?_
          · go_wp2
            refine postT_eq ?_ (Below.refl _ _)
            simp only [Act.put, List.setIfInBounds_toArray, List.set_cons_zero, List.set_cons_succ]
            try rfl
          refine obsT_step (by decide) rfl (fun w9 hE9 => ?_) (by simp only [Act.put, List.setIfInBounds_toArray, List.set_cons_zero, List.set_cons_succ]; rfl) ?_
          · have r9 := hE9.keep HE.out.2.drew (by omega)
            have e1 := r9.cell 1
            simp only [List.getElem?_toArray, List.getElem?_cons_zero, List.getElem?_cons_succ] at e1
            clear r9 hE9
            go_wp2
            refine postT_eq ?_ (Below.refl _ _)
            simp only [Act.put, List.setIfInBounds_toArray, List.set_cons_zero, List.set_cons_succ]
            try rfl
          refine obsT_step (by decide) rfl (fun w9 hE9 => ?_) (by simp only [Act.put, List.setIfInBounds_toArray, List.set_cons_zero, List.set_cons_succ]; rfl) ?_
          · go_wp2
            refine postT_eq ?_ (Below.refl _ _)
            simp only [Act.put, List.setIfInBounds_toArray, List.set_cons_zero, List.set_cons_succ]
            try rfl
          refine obsT_step (by decide) rfl (fun w9 hE9 => ?_) (by simp only [Act.put, List.setIfInBounds_toArray, List.set_cons_zero, List.set_cons_succ]; rfl) ?_
          · go_wp2
            refine postT_eq ?_ (Below.refl _ _)
            simp only [Act.put, List.setIfInBounds_toArray, List.set_cons_zero, List.set_cons_succ]
            try rfl
          refine obsT_step_read (by decide) (by kernel_rfl) rfl (fun w9 hE9 q9 => ?_) (by simp only [Act.put, List.setIfInBounds_toArray, List.set_cons_zero, List.set_cons_succ]; rfl) ?_
          · have e1 := q9.cell 2
            simp only [List.getElem?_toArray, List.getElem?_cons_zero, List.getElem?_cons_succ] at e1
            clear q9 hE9
            go_wp2
            refine postT_eq ?_ (Below.refl _ _)
            simp only [Act.put, List.setIfInBounds_toArray, List.set_cons_zero, List.set_cons_succ]
            try rfl
          refine obsT_step (by decide) rfl (fun w9 hE9 => ?_) (by simp only [Act.put, List.setIfInBounds_toArray, List.set_cons_zero, List.set_cons_succ]; rfl) ?_
          · go_wp2
            refine postT_eq ?_ (Below.refl _ _)
            simp only [Act.put, List.setIfInBounds_toArray, List.set_cons_zero, List.set_cons_succ]
            try rfl
          refine obsT_step (by decide) rfl (fun w9 hE9 => ?_) (by simp only [Act.put, List.setIfInBounds_toArray, List.set_cons_zero, List.set_cons_succ]; rfl) ?_
          · have r9 := hE9.keep HE.out.2.drew (by omega)
            have e1 := r9.cell 2
            simp only [List.getElem?_toArray, List.getElem?_cons_zero, List.getElem?_cons_succ] at e1
            clear r9 hE9
            go_wp2
            refine postT_eq ?_ (Below.refl _ _)
            simp only [Act.put, List.setIfInBounds_toArray, List.set_cons_zero, List.set_cons_succ]
            try rfl
          refine obsT_step (by decide) rfl (fun w9 hE9 => ?_) (by simp only [Act.put, List.setIfInBounds_toArray, List.set_cons_zero, List.set_cons_succ]; rfl) ?_
          · go_wp2
            refine postT_eq ?_ (Below.refl _ _)
            simp only [Act.put, List.setIfInBounds_toArray, List.set_cons_zero, List.set_cons_succ]
            try rfl
          refine obsT_step (by decide) rfl (fun w9 hE9 => ?_) (by simp only [Act.put, List.setIfInBounds_toArray, List.set_cons_zero, List.set_cons_succ]; rfl) ?_
          · go_wp2
            refine postT_eq ?_ (Below.refl _ _)
            simp only [Act.put, List.setIfInBounds_toArray, List.set_cons_zero, List.set_cons_succ]
            try rfl
          refine obsT_step_store rfl (fun w9 hE9 q9 => ?_) (by simp only [Act.put, List.setIfInBounds_toArray, List.set_cons_zero, List.set_cons_succ]; rfl) ?_
          · have e1 := q9.cell 1
            have f1 := q9.frozen 1
            have n9 := q9.set 1 (.int .i64 m)
            simp only [List.getElem?_toArray, List.getElem?_cons_zero, List.getElem?_cons_succ] at e1
            clear q9 hE9
            go_wp2
            refine postT_eqS ?_ (Spare.setCell (S := (· = g4)) rfl _) n9
            simp only [Act.put, List.setIfInBounds_toArray, List.set_cons_zero, List.set_cons_succ]
            try rfl
          refine obsT_step (by decide) rfl (fun w9 hE9 => ?_) (by simp only [Act.put, List.setIfInBounds_toArray, List.set_cons_zero, List.set_cons_succ]; rfl) ?_
          · go_wp2
            refine postT_eq ?_ (Below.refl _ _)
            simp only [Act.put, List.setIfInBounds_toArray, List.set_cons_zero, List.set_cons_succ]
            try rfl
          refine obsT_end fun w9 hE9 p9 => ?_
          have e1 := p9.cell 2
          have f1 := p9.frozen 2
          have n9 := p9.set 2 (.int .i64 M)
          simp only [List.getElem?_toArray, List.getElem?_cons_zero, List.getElem?_cons_succ] at e1
          simp only [List.setIfInBounds_toArray, List.set_cons_zero, List.set_cons_succ] at n9
          have HE9 := Lib.hid hE9
          clear p9 hE9
          change wpList _ _ _ _ _ _
          go_upto_region 7 with fail
          have bA : Below wr.heap.size wr (w9.setCell ⟨g4, 2, none⟩ (.int .i64 M)) :=
            (HE9.out.below ((HB4.out.trans (HB7.out.mono HB4.out.size)).drew) (fun b e => by rw [e, HG4.out]; exact Nat.le_refl _) (Nat.le_trans HB4.out.size HB7.out.size)).setCell (p := ⟨g4, 2, none⟩) (by rw [← HG4.out]; exact Nat.le_refl _) _
          have rA := n9
          generalize w9.setCell ⟨g4, 2, none⟩ (.int .i64 M) = wA at *
          have qA := QR.out.keep bA QR.out.lt
          have c0 := qA.cell 0
          have e0 := rA.cell 0
          have e1 := rA.cell 1
          have e2 := rA.cell 2
          simp only [List.getElem?_toArray, List.getElem?_cons_zero, List.getElem?_cons_succ] at c0 e0 e1 e2
          obtain ⟨w8, u8, x8, o8, z8⟩ := (HR.out.keep bA).putT t (m, M)
          simp only at u8
          have X8 := Lib.hid x8
          have O8 := Lib.hid ((HO.out.more bA).trans o8)
          clear x8 o8 rA n9 qA bA f1 rmin rmax
          go_wp2
          refine ⟨⟨k + 1, by simp, hlt, ?_, O8.out⟩, by simp [intOf]; omega⟩
          rw [HTK.out, HM.out]
          exact X8.out
    · obtain rfl : k = n := by omega
      have e0 : (r.txns.take k).foldl An.mergeT s.t = r.txns.foldl An.mergeT s.t := by rw [List.take_of_length_le (by rw [HN.out]; exact Nat.le_refl _)]
      rw [e0] at HR
      clear e0
      obtain ⟨TT, hTT⟩ : ∃ TT, r.txns.foldl An.mergeT s.t = TT := ⟨_, rfl⟩
      rw [hTT] at HR
      have HTT := Lib.hid hTT
      clear hTT
      have q0 := HO.out.blk K0.out (HX.out.cells1 K0.out)
      have q1 := HO.out.blk K1.out (HX.out.cells1 K1.out)
      have c0 := q0.cell 0
      have c1 := q0.cell 1
      have d10 := q1.cell 10
      simp only [List.getElem?_toArray, List.getElem?_cons_zero, List.getElem?_cons_succ] at c0 c1 d10
      have HLP := Lib.hid (HLX.out.p.keepA HX.out HO.out)
      have HOX := Lib.hid HO.out
      clear HLX K1 q1 HN d9 HO
      have K0 := Lib.hid q0
      have zx := HOX.out.size
      obtain ⟨n, hn⟩ : ∃ n, r.pages.length = n := ⟨_, rfl⟩
      rw [hn] at d10 hnp ⊢
      have HN := Lib.hid hn
      have HRX := HR
      clear hn q0 HR
      go_wp2_with fail
      go_loopw [49] (fun vi wq => ∃ k : Nat, vi = .int .i64 k ∧ k ≤ n ∧ IsTa wq mt mp ⟨TT, (r.pages.take k).foldl An.mergeP s.p⟩ ∧ Only (Two mt mp) wr wq) (fun vi _ => n - (intOf vi).toNat)
      case atStart => exact ⟨0, rfl, Nat.zero_le _, HRX.out, .refl _ _⟩
      case round =>
        obtain ⟨k, rfl, hk, hR, hO⟩ := hrel
        have HR := Lib.hid hR
        have HO := Lib.hid hO
        clear hR hO
        rename World => w5
        clear c0 c1 d10
        by_cases hlt : k < n
        · have hx0 := HR.out
          have hlw : r.pages ≠ [] := fun e => by have := HN.out; rw [e] at this; simp at this; omega
          have hel := (HLP.out.keepA HRX.out HO.out)
          have hkn : k < r.pages.length := by rw [HN.out]; exact hlt
          obtain ⟨b, off, cap, e0, _, _, hbl, hc⟩ := Elems.at2 (l := r.pages) hel hlw
          obtain ⟨rfl, _, rfl⟩ := Value.slice.inj e0
          obtain ⟨x0, x1⟩ := hc k hkn
          obtain ⟨t, ht⟩ : ∃ t, t = r.pages[k].1 := ⟨_, rfl⟩
          obtain ⟨f, hf⟩ : ∃ f, f = r.pages[k].2 := ⟨_, rfl⟩
          rw [← ht] at x0
          rw [← hf] at x1
          have HTK : Hid ((r.pages.take (k + 1)).foldl An.mergeP s.p = An.mergeP ((r.pages.take k).foldl An.mergeP s.p) (t, f)) := by rw [ht, hf]; exact take_fold _ _ _ _ hkn
          clear e0 hc hel hkn hlw ht hf
          obtain ⟨T, hT⟩ : ∃ T, T = (r.pages.take k).foldl An.mergeP s.p := ⟨_, rfl⟩
          rw [← hT] at HR HTK hx0
          clear hT
          have q0 := HO.out.blk K0.out (HRX.out.cells1 K0.out)
          have QR := Lib.hid q0
          have c1 := q0.cell 1
          have zr := HO.out.size
          have r4 := Blk.new w5 42 #[.int .i64 t, .int .i64 f]
          have b4 : Below w5.heap.size w5 (w5.alloc (.cells #[.int .i64 t, .int .i64 f] 42)) := (Below.refl _ _).alloc (Nat.le_refl _) _
          have z4 : (w5.alloc (.cells #[.int .i64 t, .int .i64 f] 42)).heap.size = w5.heap.size + 1 := by simp
          simp only [List.getElem?_toArray, List.getElem?_cons_zero, List.getElem?_cons_succ] at c1
          go_upto_region 12 with fail
          generalize w5.alloc (Obj.cells #[.int .i64 t, .int .i64 f] 42) = w4 at *
          have q4 := q0.keep b4 q0.lt
          have X4 := hx0.keep b4
          have lk := X4.lookP_ t
          have c1 := q4.cell 1
          have e0 := r4.cell 0
          have e1 := r4.cell 1
          simp only [List.getElem?_toArray, List.getElem?_cons_zero, List.getElem?_cons_succ] at c1 e0 e1
          clear x0 x1 hx0 q0
          simp only at lk
          obtain ⟨g4, hg4⟩ : ∃ g4, w5.heap.size = g4 := ⟨_, rfl⟩
          have HB4 := Lib.hid b4
          rw [hg4] at r4 z4 zr e0 e1 ⊢
          have HG4 := Lib.hid hg4
          clear hg4 b4
          unfold lookP at lk
          cases hf : T t with
          | none =>
            rw [hf] at lk
            simp only [Option.isSome_none] at lk
            have HM : Hid (An.mergeP T (t, f) = An.put T t (some f)) := by unfold An.mergeP An.joinP; rw [hf]; rfl
            clear hf
            have b7 : Below w4.heap.size w4 (w4.alloc (.cells #[.int .i64 0, .int .i64 0] 42)) := (Below.refl _ _).alloc (Nat.le_refl _) _
            go_upto_region 15 with fail
            generalize w4.alloc (Obj.cells #[.int .i64 0, .int .i64 0] 42) = w7 at *
            have q7 := q4.keep b7 q4.lt
            have r7 := r4.keep b7 r4.lt
            have c1 := q7.cell 1
            have e0 := r7.cell 0
            have e1 := r7.cell 1
            simp only [List.getElem?_toArray, List.getElem?_cons_zero, List.getElem?_cons_succ] at c1 e0 e1
            obtain ⟨w8, u8, x8, o8, z8⟩ := (X4.keep b7).putP t f
            have X8 := Lib.hid x8
            have O8 := Lib.hid (((HO.out.more HB4.out).more b7).trans o8)
            clear x8 o8 q7 r7 X4 q4 r4 lk b7 HB4
            go_wp2
            refine ⟨⟨k + 1, by simp, hlt, ?_, O8.out⟩, by simp [intOf]; omega⟩
            rw [HTK.out, HM.out]
            exact X8.out
          | some u =>
            rw [hf] at lk
            simp only [Option.isSome_some, pV] at lk
            obtain ⟨m, hm⟩ : ∃ m, m = min u f := ⟨_, rfl⟩
            have HM : Hid (An.mergeP T (t, f) = An.put T t (some m)) := by unfold An.mergeP An.joinP; rw [hf, hm]; rfl
            have rmin := min_run f u
            rw [← hm] at rmin
            clear hf hm
            have r6 := Blk.new w4 42 #[.int .i64 t, .int .i64 u]
            have b7 : Below w4.heap.size w4 (w4.alloc (.cells #[.int .i64 t, .int .i64 u] 42)) := (Below.refl _ _).alloc (Nat.le_refl _) _
            go_upto_region 14 with fail
            generalize w4.alloc (Obj.cells #[.int .i64 t, .int .i64 u] 42) = w7 at *
            have r7 := r4.keep b7 r4.lt
            rw [z4] at r6
            have e1 := r7.cell 1
            have f1 := r7.frozen 1
            have d1 := r6.cell 1
            have n9 := r7.set 1 (.int .i64 m)
            simp only [List.getElem?_toArray, List.getElem?_cons_zero, List.getElem?_cons_succ] at e1 d1
            simp only [List.setIfInBounds_toArray, List.set_cons_zero, List.set_cons_succ] at n9
            have bA : Below w5.heap.size w5 (w7.setCell ⟨g4, 1, none⟩ (.int .i64 m)) := (HB4.out.trans (b7.mono HB4.out.size)).setCell (p := ⟨g4, 1, none⟩) (by rw [← HG4.out]; exact Nat.le_refl _) _
            have N9 := Lib.hid n9
            have BA := Lib.hid bA
            clear r4 r6 r7 b7 lk X4 q4 c1 e0 n9 bA
            go_upto_region 15 with fail
            have rA := N9.out
            have bA := BA.out
            clear e1 f1 d1 N9 BA
            generalize w7.setCell ⟨g4, 1, none⟩ (.int .i64 m) = wA at *
            have qA := QR.out.keep bA QR.out.lt
            have c1 := qA.cell 1
            have e0 := rA.cell 0
            have e1 := rA.cell 1
            simp only [List.getElem?_toArray, List.getElem?_cons_zero, List.getElem?_cons_succ] at c1 e0 e1
            obtain ⟨w8, u8, x8, o8, z8⟩ := (HR.out.keep bA).putP t m
            have X8 := Lib.hid x8
            have O8 := Lib.hid ((HO.out.more bA).trans o8)
            clear x8 o8 rA qA bA rmin
            go_wp2
            refine ⟨⟨k + 1, by simp, hlt, ?_, O8.out⟩, by simp [intOf]; omega⟩
            rw [HTK.out, HM.out]
            exact X8.out
        · obtain rfl : k = n := by omega
          have e0 : (r.pages.take k).foldl An.mergeP s.p = r.pages.foldl An.mergeP s.p := by rw [List.take_of_length_le (by rw [HN.out]; exact Nat.le_refl _)]
          rw [e0] at HR
          clear e0
          go_wp2
          go_end0
          refine ⟨⟨_, rfl⟩, ?_, ((Only.ofBelow (S := Two mt mp) HB.out).trans HOX.out).trans HO.out⟩
          rw [HTT.out]
          exact HR.out
end Go.Proofs.Ytgjkhjlobfblcaa
