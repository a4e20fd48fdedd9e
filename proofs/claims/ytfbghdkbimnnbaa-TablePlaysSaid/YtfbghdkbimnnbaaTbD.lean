/- Package table: Begin. -/
import Derived.Test.YtfbghdkbimnnbaaTbC
namespace Go.Proofs.Ytfbghdkbimnnbaa
open Go.RowKit

section
variable {w : World} {F : Foot} {q : Nat} {l : Tb}
/-- A transaction that was laid into the map: the table behind it. -/
theorem TbRaw.begun {w w1 : World} {F : Foot} {q : Nat} {B : Int → Nat} {V : Int → Value} {l : Tb} {b : Nat} (r : TbRaw w1 F q (some b) B V l) {t : Int} (hx : l.at_ t = none) :
    ∃ w2, (Instr.mapUpdate 60 (.map (some b)) (.int .i64 t) (.pointer (some ⟨w1.heap.size, 0, none⟩))).run Try.prog (w1.alloc (.cells #[.int .i64 t, .int .i64 0, .int .i64 0, .int .i64 0, .slice none 0 0] 66)) = .ok () w2 ∧
      (∃ B' V', TbRaw w2 (fun b => F b ∨ b = w1.heap.size) q (some b) B' V' (Tb.ins ⟨t, 0, 0, 0, []⟩ l)) ∧ ∀ F0, Step F0 F w w1 → Step F0 (fun b => F b ∨ b = w1.heap.size) w w2 := by
  have hb : BMap (w1.alloc (.cells (stCells ⟨t, 0, 0, 0, []⟩ (.slice none 0 0)) 66)) b (ptrs B l) := r.map.some.keep (Below.heap_alloc w1 _ b (r.lt b (r.fm b rfl)))
  obtain ⟨w2, e2, m2, o2, s2, st2⟩ := put10 hb t (.pointer (some ⟨w1.heap.size, 0, none⟩))
  refine ⟨w2, e2, ⟨_, _, r.born hx m2 o2 s2⟩, fun F0 h0 => ?_⟩
  have h1 := (h0.alloc (.cells (stCells ⟨t, 0, 0, 0, []⟩ (.slice none 0 0)) 66)).trans (st2 F (r.fm b rfl))
  exact ⟨h1.os, h1.tape, h1.output, h1.size, h1.block, fun c hc => hc.elim (h1.foot c) fun e => .inr (by rw [e]; exact h0.size)⟩
set_option maxRecDepth 100000 in
set_option maxHeartbeats 8000000 in
theorem tbBegin_bad (h : IsTab w F q l) (t : Int) (hb : t < 1 ∨ 2147483647 < t) :
    Calls Try.prog 10 #[.pointer (some ⟨q, 0, none⟩), .int .i64 t] w (OutT w F q l (.int .i64 1)) := by
  have H := Lib.hid h
  clear h
  rcases hb with h1 | h1
  · go_enter Try.func10, Try.ntmps10
    go_wp2
    go_ret
    exact OutT.same H.out _
  · by_cases h2 : t < 1
    · go_enter Try.func10, Try.ntmps10
      go_wp2
      go_ret
      exact OutT.same H.out _
    · go_enter Try.func10, Try.ntmps10
      go_wp2
      go_ret
      exact OutT.same H.out _
set_option maxRecDepth 100000 in
set_option maxHeartbeats 8000000 in
theorem tbBegin_once (h : IsTab w F q l) (t : Int) (h1 : ¬ t < 1) (h2 : ¬ 2147483647 < t) {x : Tx} (hx : l.at_ t = some x) :
    Calls Try.prog 10 #[.pointer (some ⟨q, 0, none⟩), .int .i64 t] w (OutT w F q l (.int .i64 9)) := by
  have H := Lib.hid h
  obtain ⟨ho, m, B, V, r⟩ := h
  have c0 := r.cMap
  have lk := look10 r.map t
  have e : ptrs B l t = some (.pointer (some ⟨B t, 0, none⟩)) := by unfold ptrs; rw [hx]; rfl
  rw [e] at lk
  clear e r ho hx
  generalize B t = g at *
  go_enter Try.func10, Try.ntmps10
  go_wp2
  go_ret
  exact OutT.same H.out _
set_option maxRecDepth 100000 in
set_option maxHeartbeats 8000000 in
theorem tbBegin_full (h : IsTab w F q l) (t : Int) (h1 : ¬ t < 1) (h2 : ¬ 2147483647 < t) (hx : l.at_ t = none) (hl : 4 ≤ l.length) :
    Calls Try.prog 10 #[.pointer (some ⟨q, 0, none⟩), .int .i64 t] w (OutT w F q l (.int .i64 5)) := by
  have H := Lib.hid h
  obtain ⟨ho, m, B, V, r⟩ := h
  have c0 := r.cMap
  have lk := look10 r.map t
  have e : ptrs B l t = none := by unfold ptrs; rw [hx]; rfl
  rw [e] at lk
  have hlen := len10 r.map ho
  have hl' : (4 : Int) ≤ l.length := by omega
  have hl2 : (l.length : Int) ≤ 4 := by have := ho.few; omega
  clear e r ho hx hl
  generalize l.length = n at *
  go_enter Try.func10, Try.ntmps10
  go_wp2
  go_ret
  exact OutT.same H.out _
set_option maxRecDepth 100000 in
set_option maxHeartbeats 8000000 in
theorem tbBegin_new (h : IsTab w F q l) (t : Int) (h1 : ¬ t < 1) (h2 : ¬ 2147483647 < t) (hx : l.at_ t = none) (hl : ¬ 4 ≤ l.length) :
    Calls Try.prog 10 #[.pointer (some ⟨q, 0, none⟩), .int .i64 t] w (OutT w F q (Tb.ins ⟨t, 0, 0, 0, []⟩ l) (.int .i64 0)) := by
  have HOK : Hid (Tb.ins ⟨t, 0, 0, 0, []⟩ l).Ok := by
    have := h.1.begin t
    unfold Tb.beginT at this
    rw [if_neg (by omega), hx] at this
    simp [hl] at this
    exact this
  obtain ⟨ho, m, B, V, r⟩ := h
  have c0 := r.cMap
  have lk := look10 r.map t
  have e : ptrs B l t = none := by unfold ptrs; rw [hx]; rfl
  rw [e] at lk
  have hlen := len10 r.map ho
  have hl' : ¬ (4 : Int) ≤ l.length := by omega
  have hl2 : (l.length : Int) ≤ 4 := by have := ho.few; omega
  have hmm := @run_makeMap Try.prog
  have hq := fun w => run_eql_map_nil_sl (P := Try.prog) w 60 _ _ m Try.underlying60
  cases m with
  | some b =>
    obtain ⟨w2, e2, hr2, st2⟩ := r.begun (w := w) hx
    have FIN := Lib.hid hr2
    have ST := Lib.hid (st2 F (.refl _ _))
    clear e r ho hx hl hr2 st2
    generalize l.length = n at *
    go_enter Try.func10, Try.ntmps10
    go_wp2
    go_ret
    obtain ⟨B2, V2, R2⟩ := FIN.out
    exact ⟨_, rfl, ⟨HOK.out, _, _, _, R2⟩, ST.out⟩
  | none =>
    have A1 := r.head.alloc (.map #[] 0)
    have f1 := A1.frozen 0
    have c1 := A1.cell 0
    simp at c1
    obtain ⟨R1, ST1⟩ := r.mapped
    have c2 := R1.cMap
    obtain ⟨w2, e2, hr2, st2⟩ := R1.begun (w := w) hx
    have FIN := Lib.hid hr2
    have ST := Lib.hid (st2 F ST1)
    clear e r ho hx hl hr2 st2 R1 ST1 A1
    generalize l.length = n at *
    go_enter Try.func10, Try.ntmps10
    go_upto_region 11 with fail
    change Code.wp _ _ _ _ ((w.alloc (.map #[] 0)).setCell ⟨q, 0, none⟩ (.map (some w.heap.size)))
    generalize (w.alloc (.map #[] 0)).setCell ⟨q, 0, none⟩ (.map (some w.heap.size)) = w1 at *
    clear c0 c1 f1 lk hlen hmm hq
    go_wp2
    go_ret
    obtain ⟨B2, V2, R2⟩ := FIN.out
    exact ⟨_, rfl, ⟨HOK.out, _, _, _, R2⟩, ST.out⟩
theorem tbBegin_any (h : IsTab w F q l) (t : Int) :
    Calls Try.prog 10 #[.pointer (some ⟨q, 0, none⟩), .int .i64 t] w (OutT w F q (l.beginT t).1 (.int .i64 (l.beginT t).2)) := by
  unfold Tb.beginT
  by_cases hb : t < 1 ∨ 2147483647 < t
  · rw [if_pos hb]
    exact tbBegin_bad h t hb
  · rw [if_neg hb]
    cases hx : l.at_ t with
    | some x =>
      simp only [Option.isSome_some, if_true]
      exact tbBegin_once h t (by omega) (by omega) hx
    | none =>
      simp only [Option.isSome_none, Bool.false_eq_true, if_false]
      by_cases hl : 4 ≤ l.length
      · rw [if_pos hl]
        exact tbBegin_full h t (by omega) (by omega) hx hl
      · rw [if_neg hl]
        exact tbBegin_new h t (by omega) (by omega) hx hl
end
end Go.Proofs.Ytfbghdkbimnnbaa
