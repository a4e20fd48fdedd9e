/- careenref10: Add, Row, Need, Rows. -/
import Derived.Test.YtfbghdkbimnnbaaTrB
import Derived.Test.YtfbghdkbimnnbaaTbH
namespace Go.Proofs.Ytfbghdkbimnnbaa
open Go.RowKit

section
variable {w : World} {G : Foot} {g : Nat} {l : Tb}
set_option maxRecDepth 100000 in
set_option maxHeartbeats 8000000 in
theorem dtAdd_none (h : IsDt w G g l) (t a : Int) (hx : l.at_ t = none) :
    Calls Try.prog 15 #[.pointer (some ⟨g, 0, none⟩), .int .i64 t, .int .i64 a] w (OutD w G g l (.int .i64 7)) := by
  have H := Lib.hid h
  obtain ⟨ho, v, V, r⟩ := h
  have K := Lib.hid (dtFind_none r ho.few t (Tb.at_none hx))
  clear r ho hx
  go_enter Try.func15, Try.ntmps15
  go_wp2_with fail
  refine K.out.mono ?_
  rintro e w1 ⟨rfl, hb⟩
  have FIN := Lib.hid (H.out.below hb)
  have ST := Lib.hid (Step.ofBelow (F := G) hb)
  clear hb
  go_wp2
  go_ret
  exact ⟨G, rfl, FIN.out, ST.out⟩
set_option maxRecDepth 100000 in
set_option maxHeartbeats 8000000 in
theorem dtAdd_some (h : IsDt w G g l) (t d : Int) {x : Tx} (hx : l.at_ t = some x) :
    Calls Try.prog 15 #[.pointer (some ⟨g, 0, none⟩), .int .i64 t, .int .i64 d] w (OutD w G g (l.leftT t d).1 (.int .i64 (l.leftT t d).2)) := by
  have HOK := Lib.hid (h.1.leftT t d)
  obtain ⟨i, hi, ht, hn⟩ := idx_some hx
  have H := Lib.hid h
  obtain ⟨ho, v, V, r⟩ := h
  have K := Lib.hid (dtFind_some r ho.few t i x hi ht hn)
  have HSP : Hid (∀ W, Below w.heap.size w W → DtRaw W G g v V l ∧ ∃ b cap, v.ownBlock = some b ∧ v = .slice (some ⟨b, 0, none⟩) l.length cap ∧ DtAt W g V l x.txn x i b cap) := fun W hW => by
    obtain ⟨b, cap, h1, h2, h3⟩ := (r.below hW).spot ho.few hi
    exact ⟨r.below hW, b, cap, h1, h2, h3⟩
  have hl4 : (l.length : Int) ≤ 4 := by have := ho.few; omega
  have hi4 : (i : Int) < l.length := by have := (List.getElem?_eq_some_iff.1 hi).1; omega
  have HR := Lib.hid ho.rise
  have HI := Lib.hid hi
  obtain ⟨l0, l1⟩ := ho.left x (Tb.at_some hx).1
  by_cases hbad : d < -1048576 ∨ 1048576 < d ∨ x.left + d < 0 ∨ 1048576 < x.left + d
  · have e : l.leftT t d = (l, 1) := by unfold Tb.leftT; rw [hx]; simp only [if_pos hbad]
    rw [e]
    have tt : (decide (d < -1048576) = true) ∨ (decide (d < -1048576) = false ∧ decide (1048576 < d) = true) ∨ (decide (d < -1048576) = false ∧ decide (1048576 < d) = false ∧ IntKind.i64.wrap (x.left + d) = x.left + d ∧ decide (x.left + d < 0) = true) ∨
        (decide (d < -1048576) = false ∧ decide (1048576 < d) = false ∧ IntKind.i64.wrap (x.left + d) = x.left + d ∧ decide (x.left + d < 0) = false ∧ decide (1048576 < x.left + d) = true) := by
      by_cases h1 : d < -1048576
      · exact .inl (decide_eq_true h1)
      · by_cases h2 : 1048576 < d
        · exact .inr (.inl ⟨decide_eq_false h1, decide_eq_true h2⟩)
        · have hw : IntKind.i64.wrap (x.left + d) = x.left + d := IntWalk.i64_in _ (by omega)
          by_cases h3 : x.left + d < 0
          · exact .inr (.inr (.inl ⟨decide_eq_false h1, decide_eq_false h2, hw, decide_eq_true h3⟩))
          · exact .inr (.inr (.inr ⟨decide_eq_false h1, decide_eq_false h2, hw, decide_eq_false h3, decide_eq_true (by omega)⟩))
    clear e HOK r ho hx ht hbad l0 l1 hi hn
    rcases tt with t1 | ⟨t1, t2⟩ | ⟨t1, t2, t3, t4⟩ | ⟨t1, t2, t3, t4, t5⟩ <;> (
      go_enter Try.func15, Try.ntmps15
      go_wp2_with fail
      refine K.out.mono ?_
      rintro e w1 ⟨rfl, hb⟩
      obtain ⟨_, b, cap, hvb, _, A⟩ := HSP.out w1 hb
      have c := A.c
      have c3 := A.c3
      have hcap := A.hcap
      have FIN := Lib.hid (H.out.below hb)
      have ST := Lib.hid (Step.ofBelow (F := G) hb)
      clear hb A hvb
      generalize x.left = y at *
      generalize l.length = n at *
      go_wp2
      go_ret
      exact ⟨G, rfl, FIN.out, ST.out⟩)
  · have e : l.leftT t d = (l.set { x with left := x.left + d }, 0) := by unfold Tb.leftT; rw [hx]; simp only [if_neg hbad]
    rw [e] at HOK ⊢
    have t1 : decide (d < -1048576) = false := decide_eq_false (by omega)
    have t2 : decide (1048576 < d) = false := decide_eq_false (by omega)
    have t3 : IntKind.i64.wrap (x.left + d) = x.left + d := IntWalk.i64_in _ (by omega)
    have t4 : decide (x.left + d < 0) = false := decide_eq_false (by omega)
    have t5 : decide (1048576 < x.left + d) = false := decide_eq_false (by omega)
    clear e H r ho hx ht hbad l0 l1 hi hn
    go_enter Try.func15, Try.ntmps15
    go_wp2_with fail
    refine K.out.mono ?_
    rintro e w1 ⟨rfl, hb⟩
    obtain ⟨R1, b, cap, hvb, hv, A⟩ := HSP.out w1 hb
    have R2 := R1.wrote HR.out HI.out hvb (x' := { x with left := x.left + d }) rfl rfl (c := 3) (by omega) (u := .int .i64 (x.left + d)) rfl
    have z3 : w1.frozen? ⟨b, i * 5 + 3, none⟩ = false := by
      have hrow := R1.row
      rw [hv] at hrow
      exact hrow.frozenAt _
    have c := A.c
    have c3 := A.c3
    have hcap := A.hcap
    have FIN : Hid (IsDt (w1.setCell ⟨b, i * 5 + 3, none⟩ (.int .i64 (x.left + d))) G g (l.set { x with left := x.left + d })) := ⟨HOK.out, _, _, R2⟩
    have ST := Lib.hid ((Step.ofBelow (F := G) hb).set (p := ⟨b, i * 5 + 3, none⟩) (R1.fr _ hvb) (.int .i64 (x.left + d)))
    clear hb A R1 R2 hvb hv
    generalize hx1 : x.left = lx at *
    clear hx1
    generalize l.length = n at *
    go_wp2
    go_ret
    exact ⟨G, rfl, FIN.out, ST.out⟩
theorem dtAdd_any (h : IsDt w G g l) (t d : Int) :
    Calls Try.prog 15 #[.pointer (some ⟨g, 0, none⟩), .int .i64 t, .int .i64 d] w (OutD w G g (l.leftT t d).1 (.int .i64 (l.leftT t d).2)) := by
  cases hx : l.at_ t with
  | none =>
    have e : l.leftT t d = (l, 7) := by unfold Tb.leftT; rw [hx]
    rw [e]
    exact dtAdd_none h t d hx
  | some x => exact dtAdd_some h t d hx
set_option maxRecDepth 100000 in
set_option maxHeartbeats 8000000 in
theorem dtRow_none (h : IsDt w G g l) (t : Int) (hx : l.at_ t = none) :
    Calls Try.prog 23 #[.pointer (some ⟨g, 0, none⟩), .int .i64 t] w fun e w' => e = .returned (.tuple #[.agg #[.int .i64 0, .int .i64 0, .int .i64 0], .int .i64 0, .int .i64 7]) ∧ Below w.heap.size w w' := by
  have K : Hid (∀ W, Below w.heap.size w W → _) := fun W hW => by
    obtain ⟨ho, v, V, r⟩ := h.below hW
    exact dtFind_none r ho.few t (Tb.at_none hx)
  have X0 := Blk.new w 46 #[.int .i64 0, .int .i64 0, .int .i64 0]
  have HB0 := Lib.hid ((Below.refl w.heap.size w).alloc (Nat.le_refl _) (.cells #[.int .i64 0, .int .i64 0, .int .i64 0] 46))
  have HX := Lib.hid X0
  clear X0 h hx
  go_enter Try.func23, Try.ntmps23
  go_wp2_with fail
  refine (K.out _ HB0.out).mono ?_
  rintro e w1 ⟨rfl, hb⟩
  have X1 := HX.out.keep hb HX.out.lt
  have HB1 := Lib.hid (below2 HB0.out hb)
  have HX1 := Lib.hid X1
  clear hb X1
  go_wp2_with (refine wpList_store_row rfl 46 _ _ rfl w.heap.size _ rfl rfl 46 _ HX1.out (by kernel_rfl) (by simp) (by simp [Value.oneCell']) ?_)
  exact bodyPost_ret (results_ctt rfl _ _ w.heap.size 46 _ _ rfl (HX1.out.setRow _) Try.underlying46 rfl (by kernel_rfl)) rfl ⟨rfl, (Spare.setRow (S := (· = w.heap.size)) rfl _).below HB1.out (fun b e => by rw [e]; exact Nat.le_refl _) HB1.out.size⟩
set_option maxRecDepth 100000 in
set_option maxHeartbeats 8000000 in
theorem dtRow_some (h : IsDt w G g l) (t : Int) {x : Tx} (hx : l.at_ t = some x) :
    Calls Try.prog 23 #[.pointer (some ⟨g, 0, none⟩), .int .i64 t] w fun e w' => e = .returned (.tuple #[.agg #[.int .i64 x.txn, .int .i64 x.first, .int .i64 x.last], .int .i64 x.left, .int .i64 0]) ∧ Below w.heap.size w w' := by
  obtain ⟨i, hi, ht, hn⟩ := idx_some hx
  obtain ⟨ho, v, V, r⟩ := h
  have K : Hid (∀ W, Below w.heap.size w W → _) := fun W hW => dtFind_some (r.below hW) ho.few t i x hi ht hn
  obtain ⟨b, cap, hvb, hv, A⟩ := r.spot ho.few hi
  have hl4 : (l.length : Int) ≤ 4 := by have := ho.few; omega
  have hi4 : (i : Int) < l.length := by have := (List.getElem?_eq_some_iff.1 hi).1; omega
  have hcap := A.hcap
  have X0 := Blk.new w 46 #[.int .i64 0, .int .i64 0, .int .i64 0]
  have HB0 := Lib.hid ((Below.refl w.heap.size w).alloc (Nat.le_refl _) (.cells #[.int .i64 0, .int .i64 0, .int .i64 0] 46))
  have HX := Lib.hid X0
  have hgl := r.head.lt
  have hbl := A.blt
  have HA : Hid (∀ w1, Below (w.alloc (.cells #[.int .i64 0, .int .i64 0, .int .i64 0] 46)).heap.size (w.alloc (.cells #[.int .i64 0, .int .i64 0, .int .i64 0] 46)) w1 → ∀ W, Spare (· = w.heap.size) w1.drew W →
      W.cell? ⟨g, 0, none⟩ = some (.slice (some ⟨b, 0, none⟩) l.length cap) ∧ W.cell? ⟨b, i * 5, none⟩ = some (.int .i64 x.txn) ∧ W.cell? ⟨b, i * 5 + 1, none⟩ = some (.int .i64 x.first) ∧ W.cell? ⟨b, i * 5 + 2, none⟩ = some (.int .i64 x.last) ∧ W.cell? ⟨b, i * 5 + 3, none⟩ = some (.int .i64 x.left)) := fun w1 hb1 W hW => by
    have hB := below2 HB0.out hb1
    have k : ∀ (q o : Nat) (u : Value), q < w.heap.size → w.cell? ⟨q, o, none⟩ = some u → W.cell? ⟨q, o, none⟩ = some u := fun q o u hq hc => by
      have h1 := (hB.cell (p := ⟨q, o, none⟩) hq).trans hc
      have h2 := hW.cell (p := ⟨q, o, none⟩) (by have := hB.size; show q < w1.heap.size; omega) (fun e => by have : q = w.heap.size := e; omega)
      exact h2.trans h1
    exact ⟨k _ _ _ hgl A.c, k _ _ _ hbl A.c0, k _ _ _ hbl A.c1, k _ _ _ hbl A.c2, k _ _ _ hbl A.c3⟩
  clear X0 r hx ho hi ht hn hvb hv A hgl hbl
  generalize l.length = n at *
  obtain ⟨t0, b1, b2, d, mm⟩ := x
  simp only at *
  go_enter Try.func23, Try.ntmps23
  go_wp2_with fail
  refine (K.out _ HB0.out).mono ?_
  rintro e w1 ⟨rfl, hb⟩
  go_upto_region 4 with fail
  have HX1 := Lib.hid (HX.out.keep hb HX.out.lt)
  have HB1 := Lib.hid (below2 HB0.out hb)
  have HR := Lib.hid (HA.out w1 hb)
  clear K HA hb HX HB0
  refine' wp_region_late 19 16 (· = w.heap.size) (fun W => Blk W w.heap.size 46 #[.int .i64 0, .int .i64 0, .int .i64 0]) (fun W => Blk W w.heap.size 46 #[.int .i64 t0, .int .i64 b1, .int .i64 b2]) (_ :: _ :: _ :: _ :: _ :: _ :: _ :: _ :: _ :: _ :: _ :: _ :: _ :: _ :: _ :: _ :: undef :: _ :: _ :: []) (by kernel_rfl) (by kernel_rfl) (by kernel_rfl) (by kernel_rfl) (by kernel_rfl) rfl HX1.out (fun W W' hb h => h.keep hb h.lt) (fun W W' hb h => h.keep hb h.lt) ?main
  case main =>
    iterate 16
      refine obsT_is (by decide) (fun w4 hE4 => ?_) ?_
      · obtain ⟨y, y0, y1, y2, y3⟩ := HR.out w4 hE4
        go_wp2_with fail
        exact postT_is (Below.refl _ _)
      simp only [Act.put, List.setIfInBounds_toArray, List.set_cons_zero, List.set_cons_succ]
    refine obsT_store (fun w4 hE4 r4 => ?_) ?_
    · go_wp2_with (refine wpList_store_row rfl 46 _ _ rfl w.heap.size _ rfl rfl 46 _ r4 (by kernel_rfl) (by simp) (by simp [Value.oneCell']) ?_)
      exact postT_stored (Spare.setRow (S := (· = w.heap.size)) rfl _) (r4.setRow _)
    simp only [Act.put]
    iterate 2
      refine obsT_is (by decide) (fun w4 hE4 => ?_) ?_
      · go_wp2
        exact postT_is (Below.refl _ _)
      simp only [Act.put, List.setIfInBounds_toArray, List.set_cons_zero, List.set_cons_succ]
    refine obsT_end fun w5 hE5 r5 => ?_
    have B5 := hE5.below HB1.out.drew (fun b e => by rw [e]; exact Nat.le_refl _) HB1.out.drew.size
    change wpList _ _ _ _ _ _
    go_wp2
    exact bodyPost_ret (results_ctt rfl _ _ w.heap.size 46 _ _ rfl r5 Try.underlying46 rfl (by kernel_rfl)) rfl ⟨rfl, B5⟩
theorem dtRow_any (h : IsDt w G g l) (t : Int) :
    Calls Try.prog 23 #[.pointer (some ⟨g, 0, none⟩), .int .i64 t] w fun e w' => e = .returned (.tuple #[.agg (rwCells (l.rowT t).1), .int .i64 (l.rowT t).2.1, .int .i64 (l.rowT t).2.2]) ∧ Below w.heap.size w w' := by
  cases hx : l.at_ t with
  | none =>
    have e : l.rowT t = ((0, 0, 0), 0, 7) := by unfold Tb.rowT; rw [hx]
    rw [e]
    exact dtRow_none h t hx
  | some x =>
    have e : l.rowT t = ((x.txn, x.first, x.last), x.left, 0) := by unfold Tb.rowT; rw [hx]
    rw [e]
    exact dtRow_some h t hx
/-- What those ahead of a place need. -/
theorem need_take {l : Tb} {k : Nat} {x : Tx} (hk : l[k]? = some x) : Tb.need (l.take (k + 1)) = Tb.need (l.take k) + (1 + x.left) := by
  obtain ⟨h, rfl⟩ := List.getElem?_eq_some_iff.1 hk
  have key : ∀ (a : List Tx) (y : Tx), Tb.need (a ++ [y]) = Tb.need a + (1 + y.left) := by
    intro a y
    induction a with
    | nil => show 1 + y.left + 0 = 0 + (1 + y.left); omega
    | cons z a ih => show 1 + z.left + Tb.need (a ++ [y]) = 1 + z.left + Tb.need a + (1 + y.left); rw [ih]; omega
  rw [List.take_succ_eq_append_getElem h, key]
set_option maxRecDepth 100000 in
set_option maxHeartbeats 8000000 in
theorem dtNeed_any (h : IsDt w G g l) : Calls Try.prog 28 #[.pointer (some ⟨g, 0, none⟩)] w fun e w' => e = .returned (.int .i64 l.need) ∧ Below w.heap.size w w' := by
  obtain ⟨ho, v, V, r⟩ := h
  obtain ⟨a, cap, hv, c0, hcap, hcm, hrow⟩ := r.look
  have HROW := Lib.hid hrow
  have HO := Lib.hid ho
  have hg := r.head.lt
  have hl4 : (l.length : Int) ≤ 4 := by have := ho.few; omega
  clear r hrow hcm hv ho
  go_enter Try.func28, Try.ntmps28
  go_wp2
  go_loopw [3, 4] (fun n j wr => ∃ k : Nat, k ≤ l.length ∧ n = .int .i64 (Tb.need (l.take k)) ∧ j = .int .i64 k ∧ Below w.heap.size w wr) (fun _ j _ => (l.length - intOf j).toNat)
  case atStart => exact ⟨0, Nat.zero_le _, rfl, rfl, Below.refl _ _⟩
  case round =>
    obtain ⟨k, hk, rfl, rfl, hB⟩ := hrel
    have cg := (hB.cell (p := ⟨g, 0, none⟩) hg).trans c0
    have HB := Lib.hid hB
    by_cases hkl : k < l.length
    · have hkli : (k : Int) < l.length := by omega
      obtain ⟨b, rfl, hb, _, hc⟩ := HROW.out k l[k] (List.getElem?_eq_getElem hkl)
      have d3 := (hB.cell (p := ⟨b, k * 5 + 3, none⟩) hb).trans (hc 3 (by omega))
      simp [stCells] at d3
      have HKI := Lib.hid hkl
      have HN := Lib.hid (need_take (List.getElem?_eq_getElem hkl))
      have hlf := HO.out.left _ (List.getElem_mem hkl)
      have hnn := Tb.need_nonneg (l := l.take k) fun x hx => HO.out.left x (List.mem_of_mem_take hx)
      rw [List.length_take] at hnn
      have hw1 : IntKind.i64.wrap (1 + l[k].left) = 1 + l[k].left := IntWalk.i64_in _ (by omega)
      have hw2 : IntKind.i64.wrap (Tb.need (l.take k) + (1 + l[k].left)) = Tb.need (l.take k) + (1 + l[k].left) := IntWalk.i64_in _ (by omega)
      clear hc hB hlf hnn
      generalize l[k].left = y at *
      generalize Tb.need (l.take k) = nd at *
      go_wp2
      exact ⟨⟨k + 1, HKI.out, by rw [HN.out], by go_num, HB.out⟩, by simp [intOf]; have := HKI.out; omega⟩
    · obtain rfl : k = l.length := by omega
      rw [List.take_length]
      clear hB
      go_wp2
      go_ret
      exact ⟨rfl, HB.out⟩
end
end Go.Proofs.Ytfbghdkbimnnbaa
