/- careenref10: Log, Add. -/
import Derived.Test.YtfbghdkbimnnbaaTrA
namespace Go.Proofs.Ytfbghdkbimnnbaa
open Go.RowKit

theorem txV_set {V V' : Int → Value} {c : Nat} {u : Value} (hc : c < 5) : ∀ (l : Tb) (i : Nat) (x x' : Tx), l[i]? = some x → (stCells x (V x.txn)).setIfInBounds c u = stCells x' (V' x'.txn) → (∀ (j : Nat) (y : Tx), j ≠ i → l[j]? = some y → V y.txn = V' y.txn) → (txV V l).set (i * 5 + c) u = txV V' (List.set l i x')
  | [], i, x, x', h, _, _ => by simp at h
  | y :: l, 0, x, x', h, he, hV => by
    simp at h; subst h
    show ((stCells y (V y.txn)).toList ++ txV V l).set (0 * 5 + c) u = (stCells x' (V' x'.txn)).toList ++ txV V' l
    rw [Nat.zero_mul, Nat.zero_add, List.set_append_left _ _ (by show c < 5; exact hc), ← Array.toList_setIfInBounds, he]
    rw [txV_congr (V' := V') fun z hz => by
      obtain ⟨j, hj, e⟩ := List.getElem_of_mem hz
      exact hV (j + 1) z (by omega) (by simp [hj, e])]
  | y :: l, i + 1, x, x', h, he, hV => by
    show ((stCells y (V y.txn)).toList ++ txV V l).set ((i + 1) * 5 + c) u = (stCells y (V' y.txn)).toList ++ txV V' (List.set l i x')
    have hl : (stCells y (V y.txn)).toList.length = 5 := rfl
    rw [List.set_append_right _ _ (by rw [hl]; omega), hl, show (i + 1) * 5 + c - 5 = i * 5 + c from by omega]
    rw [txV_set hc l i x x' (by simpa using h) he fun j z hj hz => hV (j + 1) z (by omega) (by simpa using hz), hV 0 y (by omega) rfl]
theorem set_idx {l : Tb} (hr : l.Pairwise fun a b => a.txn < b.txn) {i : Nat} {x x' : Tx} (hi : l[i]? = some x) (he : x'.txn = x.txn) : l.set x' = List.set l i x' := by
  unfold Tb.set
  apply List.ext_getElem?
  intro j
  rw [List.getElem?_map, List.getElem?_set]
  obtain ⟨hil, hie⟩ := List.getElem?_eq_some_iff.1 hi
  by_cases hij : i = j
  · subst hij
    rw [if_pos rfl, hi, if_pos hil]
    simp [he]
  · rw [if_neg hij]
    cases hj : l[j]? with
    | none => rfl
    | some y =>
      obtain ⟨hjl, hje⟩ := List.getElem?_eq_some_iff.1 hj
      have hne : y.txn ≠ x'.txn := by
        rw [he, ← hie, ← hje]
        rw [List.pairwise_iff_getElem] at hr
        rcases Nat.lt_or_gt_of_ne hij with h | h
        · have := hr i j hil hjl h; omega
        · have := hr j i hjl hil h; omega
      simp [hne]
namespace DtRaw
variable {w w' : World} {G F2 F2' : Foot} {g : Nat} {v : Value} {V : Int → Value} {l : Tb}
/-- A number of a transaction was written. -/
theorem wrote (r : DtRaw w G g v V l) (hr : l.Pairwise fun a b => a.txn < b.txn) {i b c : Nat} {x x' : Tx} (hi : l[i]? = some x) (hb : v.ownBlock = some b) (he : x'.txn = x.txn) (hm : x'.marks = x.marks) (hc : c < 5) {u : Value}
    (hcell : (stCells x (V x.txn)).setIfInBounds c u = stCells x' (V x.txn)) : DtRaw (w.setCell ⟨b, i * 5 + c, none⟩ u) G g v V (l.set x') := by
  have hxl : x ∈ l := List.mem_of_getElem? hi
  obtain ⟨n, cap, hv, _⟩ := own_form r.row (by have := List.length_pos_of_mem hxl; omega)
  have hnb : n = b := by rw [hv] at hb; exact Option.some.inj hb
  subst hnb
  have hlen : (l.set x').length = l.length := by unfold Tb.set; rw [List.length_map]
  have hgb : g ≠ n := fun e => own_blk r.row r.head (by decide) (by rw [hv, e]; rfl)
  have hmb : ∀ y ∈ l, ∀ k, (V y.txn).ownBlock = some k → k ≠ n := fun y hy k hk e => own_apart (r.mks y hy) r.row (by decide) hk (by rw [hv, e]; rfl)
  have hsz : (w.setCell ⟨n, i * 5 + c, none⟩ u).heap.size = w.heap.size := by simp [World.setCell]
  have hrow := r.row
  rw [hv] at hrow
  refine ⟨(heap_setCell_other w _ g _ hgb).trans r.head, ?_, fun y hy => ?_, fun y hy z hz => ?_, r.fg, r.fr, fun y hy => ?_, fun k hk => by rw [hsz]; exact r.lt k hk⟩
  · have h1 := (hrow.stored (i * 5 + c) u).1
    rw [hlen, hv, set_idx hr hi he, ← txV_set (V := V) (V' := V) hc l i x x' hi (by rw [he]; exact hcell) fun _ _ _ _ => rfl]
    exact h1
  · rcases Tb.mem_set hy with rfl | ⟨hy, _⟩
    · rw [he, hm]
      exact own_keep (r.mks x hxl) fun k hk => heap_setCell_other w _ k _ (hmb x hxl k hk)
    · exact own_keep (r.mks y hy) fun k hk => heap_setCell_other w _ k _ (hmb y hy k hk)
  · have o : ∀ y ∈ l.set x', ∃ y0 ∈ l, y0.txn = y.txn := fun y hy => by
      rcases Tb.mem_set hy with rfl | ⟨hy, _⟩
      · exact ⟨x, hxl, he.symm⟩
      · exact ⟨y, hy, rfl⟩
    obtain ⟨y0, hy0, e1⟩ := o y hy
    obtain ⟨z0, hz0, e2⟩ := o z hz
    rw [← e1, ← e2]
    exact r.apartV y0 hy0 z0 hz0
  · rcases Tb.mem_set hy with rfl | ⟨hy, _⟩
    · rw [he]; exact r.fv x hxl
    · exact r.fv y hy
end DtRaw
theorem set_set {l : Tb} {x y : Tx} (h : y.txn = x.txn) : (l.set x).set y = l.set y := by
  unfold Tb.set
  rw [List.map_map]
  refine List.map_congr_left fun z _ => ?_
  show (if (if z.txn = x.txn then x else z).txn = y.txn then y else (if z.txn = x.txn then x else z)) = _
  by_cases hz : z.txn = x.txn
  · rw [if_pos hz, if_pos h.symm, if_pos (hz.trans h.symm)]
  · rw [if_neg hz]
/-- A transaction that is there: its place, its cells. -/
structure DtAt (w : World) (g : Nat) (V : Int → Value) (l : Tb) (t : Int) (x : Tx) (i b cap : Nat) : Prop where
  at_ : l[i]? = some x
  txn : x.txn = t
  len : i < l.length
  few : l.length ≤ 4
  hcap : l.length ≤ cap
  blt : b < w.heap.size
  c : w.cell? ⟨g, 0, none⟩ = some (.slice (some ⟨b, 0, none⟩) l.length cap)
  c0 : w.cell? ⟨b, i * 5, none⟩ = some (.int .i64 x.txn)
  c1 : w.cell? ⟨b, i * 5 + 1, none⟩ = some (.int .i64 x.first)
  c2 : w.cell? ⟨b, i * 5 + 2, none⟩ = some (.int .i64 x.last)
  c3 : w.cell? ⟨b, i * 5 + 3, none⟩ = some (.int .i64 x.left)
  c4 : w.cell? ⟨b, i * 5 + 4, none⟩ = some (V t)
theorem DtRaw.spot {w : World} {G : Foot} {g : Nat} {v : Value} {V : Int → Value} {l : Tb} (r : DtRaw w G g v V l) (hf : l.length ≤ 4) {i : Nat} {x : Tx} (hi : l[i]? = some x) :
    ∃ b cap, v.ownBlock = some b ∧ v = .slice (some ⟨b, 0, none⟩) l.length cap ∧ DtAt w g V l x.txn x i b cap := by
  obtain ⟨a, cap, hv, c0, hcap, hcm, hrow⟩ := r.look
  obtain ⟨b, rfl, hb, hvb, hc⟩ := hrow i x hi
  exact ⟨b, cap, hvb, hv, hi, rfl, (List.getElem?_eq_some_iff.1 hi).1, hf, hcap, hb, c0, hc 0 (by omega), hc 1 (by omega), hc 2 (by omega), hc 3 (by omega), hc 4 (by omega)⟩
section
variable {w : World} {G : Foot} {g : Nat} {l : Tb}
set_option maxRecDepth 100000 in
set_option maxHeartbeats 8000000 in
theorem dtLog_none (h : IsDt w G g l) (t a : Int) (hx : l.at_ t = none) :
    Calls Try.prog 13 #[.pointer (some ⟨g, 0, none⟩), .int .i64 t, .int .i64 a] w (OutD w G g l (.int .i64 7)) := by
  have H := Lib.hid h
  obtain ⟨ho, v, V, r⟩ := h
  have K := Lib.hid (dtFind_none r ho.few t (Tb.at_none hx))
  clear r ho hx
  go_enter Try.func13, Try.ntmps13
  go_wp2_with fail
  refine K.out.mono ?_
  rintro e w1 ⟨rfl, hb⟩
  have FIN := Lib.hid (H.out.below hb)
  have ST := Lib.hid (Step.ofBelow (F := G) hb)
  clear hb
  go_wp2
  go_ret
  exact ⟨G, rfl, FIN.out, ST.out⟩
set_option maxRecDepth 100000 in
set_option maxHeartbeats 8000000 in
theorem dtLog_some (h : IsDt w G g l) (t a : Int) {x : Tx} (hx : l.at_ t = some x) :
    Calls Try.prog 13 #[.pointer (some ⟨g, 0, none⟩), .int .i64 t, .int .i64 a] w (OutD w G g (l.logT t a).1 (.int .i64 (l.logT t a).2)) := by
  have HOK := Lib.hid (h.1.log t a)
  obtain ⟨i, hi, ht, hn⟩ := idx_some hx
  have H := Lib.hid h
  obtain ⟨ho, v, V, r⟩ := h
  have K := Lib.hid (dtFind_some r ho.few t i x hi ht hn)
  obtain ⟨b, cap, hvb, hv, A⟩ := r.spot ho.few hi
  have hil := A.len
  have HSP : Hid (∀ W, Below w.heap.size w W → DtRaw W G g v V l ∧ ∃ b cap, v.ownBlock = some b ∧ DtAt W g V l x.txn x i b cap) := fun W hW => by
    obtain ⟨b, cap, h1, _, h3⟩ := (r.below hW).spot ho.few hi
    exact ⟨r.below hW, b, cap, h1, h3⟩
  have hl4 : (l.length : Int) ≤ 4 := by have := ho.few; omega
  have hi4 : (i : Int) < l.length := by omega
  have HR := Lib.hid ho.rise
  have HF := Lib.hid ho.few
  clear r ho hn A hvb hv
  by_cases hle : a ≤ x.last
  · have e : l.logT t a = (l, 1) := by unfold Tb.logT; rw [hx]; simp [hle]
    rw [e]
    clear e HOK hx ht hi hil
    go_enter Try.func13, Try.ntmps13
    go_wp2_with fail
    refine K.out.mono ?_
    rintro e w1 ⟨rfl, hb⟩
    obtain ⟨_, b, cap, hvb, A⟩ := HSP.out w1 hb
    have c := A.c
    have c2 := A.c2
    have hcap := A.hcap
    have FIN := Lib.hid (H.out.below hb)
    have ST := Lib.hid (Step.ofBelow (F := G) hb)
    clear hb A hvb
    generalize x.last = y at *
    generalize l.length = n at *
    go_wp2
    go_ret
    exact ⟨G, rfl, FIN.out, ST.out⟩
  have e : l.logT t a = (l.set { x with last := a, first := if x.first = 0 then a else x.first }, 0) := by unfold Tb.logT; rw [hx]; simp [hle]
  rw [e] at HOK ⊢
  have hi2 : (l.set { x with last := a })[i]? = some { x with last := a } := by
    rw [set_idx (x' := { x with last := a }) HR.out hi rfl, List.getElem?_set, if_pos rfl, if_pos hil]
  have HI := Lib.hid hi
  have HI2 := Lib.hid hi2
  have hr2 := Lib.hid (Tb.rise_set HR.out { x with last := a })
  have hln : Hid ((l.set { x with last := a }).length = l.length) := by unfold Hid Tb.set; rw [List.length_map]
  clear e H hx hi hi2 ht hil
  by_cases h0 : x.first = 0
  · rw [if_pos h0] at HOK ⊢
    go_enter Try.func13, Try.ntmps13
    go_wp2_with fail
    refine K.out.mono ?_
    rintro e w1 ⟨rfl, hb⟩
    obtain ⟨R1, b, cap, hvb, A⟩ := HSP.out w1 hb
    have R2 := R1.wrote HR.out HI.out hvb (x' := { x with last := a }) rfl rfl (c := 2) (by omega) (u := .int .i64 a) rfl
    obtain ⟨b', cap', hvb', hv', A2⟩ := R2.spot (by rw [hln.out]; exact HF.out) HI2.out
    have hbb : b' = b := by rw [hvb] at hvb'; exact (Option.some.inj hvb').symm
    subst hbb
    have R3 := R2.wrote hr2.out HI2.out hvb (x' := { x with last := a, first := a }) rfl rfl (c := 1) (by omega) (u := .int .i64 a) rfl
    rw [set_set (x := { x with last := a }) (y := { x with last := a, first := a }) rfl] at R3
    have hcc : cap' = cap := by
      have h1 := R1.head.cell 0
      rw [A.c, hv'] at h1
      simp at h1
      exact h1.2.symm
    have z2 : w1.frozen? ⟨b', i * 5 + 2, none⟩ = false := by
      have hrow := R1.row
      rw [hv'] at hrow
      rw [hln.out] at hrow
      exact hrow.frozenAt _
    have z1 : (w1.setCell ⟨b', i * 5 + 2, none⟩ (.int .i64 a)).frozen? ⟨b', i * 5 + 1, none⟩ = false := by
      have hrow := R2.row
      rw [hv'] at hrow
      exact hrow.frozenAt _
    subst hcc
    have c := A.c
    have c2 := A.c2
    have hcap := A.hcap
    have d := A2.c
    rw [hln.out] at d
    have d1 := A2.c1
    have FIN : Hid (IsDt ((w1.setCell ⟨b', i * 5 + 2, none⟩ (.int .i64 a)).setCell ⟨b', i * 5 + 1, none⟩ (.int .i64 a)) G g (l.set { x with last := a, first := a })) := ⟨HOK.out, _, _, R3⟩
    have ST := Lib.hid (((Step.ofBelow (F := G) hb).set (p := ⟨b', i * 5 + 2, none⟩) (R1.fr _ hvb) (.int .i64 a)).set (p := ⟨b', i * 5 + 1, none⟩) (R1.fr _ hvb) (.int .i64 a))
    clear hb A A2 R1 R2 R3 hvb hvb' hv'
    obtain ⟨t0, f0, l0, lf, mm⟩ := x
    simp only at *
    subst h0
    generalize l.length = n at *
    go_wp2
    go_ret
    exact ⟨G, rfl, FIN.out, ST.out⟩
  · rw [if_neg h0] at HOK ⊢
    have h0' : (x.first == 0) = false := by simpa using h0
    go_enter Try.func13, Try.ntmps13
    go_wp2_with fail
    refine K.out.mono ?_
    rintro e w1 ⟨rfl, hb⟩
    obtain ⟨R1, b, cap, hvb, A⟩ := HSP.out w1 hb
    have R2 := R1.wrote HR.out HI.out hvb (x' := { x with last := a }) rfl rfl (c := 2) (by omega) (u := .int .i64 a) rfl
    obtain ⟨b', cap', hvb', hv', A2⟩ := R2.spot (by rw [hln.out]; exact HF.out) HI2.out
    have hbb : b' = b := by rw [hvb] at hvb'; exact (Option.some.inj hvb').symm
    subst hbb
    have hcc : cap' = cap := by
      have h1 := R1.head.cell 0
      rw [A.c, hv'] at h1
      simp at h1
      exact h1.2.symm
    have z2 : w1.frozen? ⟨b', i * 5 + 2, none⟩ = false := by
      have hrow := R1.row
      rw [hv'] at hrow
      rw [hln.out] at hrow
      exact hrow.frozenAt _
    subst hcc
    have c := A.c
    have c2 := A.c2
    have hcap := A.hcap
    have d := A2.c
    rw [hln.out] at d
    have d1 := A2.c1
    have FIN : Hid (IsDt (w1.setCell ⟨b', i * 5 + 2, none⟩ (.int .i64 a)) G g (l.set { x with last := a, first := x.first })) := ⟨HOK.out, _, _, R2⟩
    have ST := Lib.hid ((Step.ofBelow (F := G) hb).set (p := ⟨b', i * 5 + 2, none⟩) (R1.fr _ hvb) (.int .i64 a))
    clear hb A A2 R1 R2 hvb hvb' hv' h0
    generalize hx1 : x.last = lx at *
    generalize hx2 : x.first = fx at *
    clear hx1 hx2
    generalize l.length = n at *
    go_wp2
    go_ret
    exact ⟨G, rfl, FIN.out, ST.out⟩
theorem dtLog_any (h : IsDt w G g l) (t a : Int) :
    Calls Try.prog 13 #[.pointer (some ⟨g, 0, none⟩), .int .i64 t, .int .i64 a] w (OutD w G g (l.logT t a).1 (.int .i64 (l.logT t a).2)) := by
  cases hx : l.at_ t with
  | none =>
    have e : l.logT t a = (l, 7) := by unfold Tb.logT; rw [hx]
    rw [e]
    exact dtLog_none h t a hx
  | some x => exact dtLog_some h t a hx
end
end Go.Proofs.Ytfbghdkbimnnbaa
