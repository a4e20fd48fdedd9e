/- Package table: New, Log, Left, Row. -/
import Derived.Test.YtfbghdkbimnnbaaTbA
namespace Go.Proofs.Ytfbghdkbimnnbaa
open Go.RowKit

/-- What a call leaves: the table, and what it wrote. -/
def OutT (w : World) (F : Foot) (q : Nat) (l : Tb) (v : Value) (e : Ending) (w' : World) : Prop := ∃ F', e = .returned v ∧ IsTab w' F' q l ∧ Step F F' w w'
theorem OutT.same {w : World} {F : Foot} {q : Nat} {l : Tb} (h : IsTab w F q l) (v : Value) : OutT w F q l v (.returned v) w := ⟨F, rfl, h, .refl _ _⟩
namespace TbRaw
variable {w w' : World} {F : Foot} {q : Nat} {m : Option Nat} {B : Int → Nat} {V : Int → Value} {l : Tb}
/-- Numbers of a transaction were written. -/
theorem stored (r : TbRaw w F q m B V l) {t : Int} {x x' : Tx} (hx : l.at_ t = some x) (hx' : x'.txn = t) (hst : Blk w' (B t) 66 (stCells x' (V t))) (hm : x'.marks = x.marks) (hs : Step (fun b => b = B t) (fun b => b = B t) w w') (ho : (l.set x').Ok) :
    IsTab w' (fun b => F b ∨ (V t).ownBlock = some b) q (l.set x') ∧ Step F (fun b => F b ∨ (V t).ownBlock = some b) w w' := by
  have hVt := r.marks hx
  have hne : (V t).ownBlock ≠ some (B t) := own_blk hVt (r.cells hx) (by decide)
  have hmk : w'.ownsRow 0 73 2 (V t) x'.marks.length (mkV x'.marks) := by
    rw [hm]
    exact own_keep hVt fun b hb => hs.block b (hVt.lt b hb).2 fun e => hne (e ▸ hb)
  have hs2 : Step (fun b => b = B t ∨ (V t).ownBlock = some b) (fun b => b = B t) w w' := ⟨hs.os, hs.tape, hs.output, hs.size, fun b hb hf => hs.block b hb fun e => hf (.inl e), fun b hb => (hs.foot b hb).imp .inl id⟩
  obtain ⟨h1, h2⟩ := r.upd hx hx' hst hmk (fun b hb => .inl hb) hs2
  exact ⟨⟨ho, _, _, _, h1⟩, h2⟩
end TbRaw
section
variable {w : World} {F : Foot} {q : Nat} {l : Tb}
set_option maxRecDepth 100000 in
set_option maxHeartbeats 4000000 in
theorem tbNew_any (w : World) : Calls Try.prog 9 #[] w fun e w' => e = .returned (.pointer (some ⟨w.heap.size, 0, none⟩)) ∧ IsTab w' (fun b => b = w.heap.size) w.heap.size [] ∧ Below w.heap.size w w' := by
  have x := Blk.new w 62 #[.map none]
  have H : Hid (IsTab (w.alloc (.cells #[.map none] 62)) (fun b => b = w.heap.size) w.heap.size [] ∧ Below w.heap.size w (w.alloc (.cells #[.map none] 62))) :=
    ⟨⟨Tb.Ok.none, none, fun _ => 0, fun _ => undef, x, show Txns _ none _ [] from rfl, nofun, nofun, nofun, nofun, rfl, nofun, nofun, nofun, fun b hb => (by subst hb; simp)⟩, (Below.refl _ _).alloc (Nat.le_refl _) _⟩
  clear x
  go_enter Try.func9, Try.ntmps9
  go_wp2
  go_ret
  exact ⟨rfl, H.out.1, H.out.2⟩
set_option maxRecDepth 100000 in
set_option maxHeartbeats 8000000 in
theorem tbLog_none (h : IsTab w F q l) (t a : Int) (hx : l.at_ t = none) :
    Calls Try.prog 12 #[.pointer (some ⟨q, 0, none⟩), .int .i64 t, .int .i64 a] w (OutT w F q l (.int .i64 7)) := by
  have H := Lib.hid h
  obtain ⟨ho, m, B, V, r⟩ := h
  have K := Lib.hid (tbFind_none r hx)
  clear r ho hx
  go_enter Try.func12, Try.ntmps12
  go_wp2_with fail
  refine K.out.mono ?_
  rintro e w1 ⟨rfl, rfl⟩
  go_wp2
  go_ret
  exact OutT.same H.out _
set_option maxRecDepth 100000 in
set_option maxHeartbeats 8000000 in
theorem tbLog_some (h : IsTab w F q l) (t a : Int) {x : Tx} (hx : l.at_ t = some x) :
    Calls Try.prog 12 #[.pointer (some ⟨q, 0, none⟩), .int .i64 t, .int .i64 a] w (OutT w F q (l.logT t a).1 (.int .i64 (l.logT t a).2)) := by
  have HOK := Lib.hid (h.1.log t a)
  have H := Lib.hid h
  obtain ⟨ho, m, B, V, r⟩ := h
  have K := Lib.hid (tbFind_some r hx)
  have ht := (Tb.at_some hx).2
  have HC := Lib.hid (r.cells hx)
  have c1 := HC.out.cell 1
  have c2 := HC.out.cell 2
  have z1 := HC.out.frozen 1
  have z2 := HC.out.frozen 2
  simp [stCells] at c1 c2
  by_cases hle : a ≤ x.last
  · have e : l.logT t a = (l, 1) := by unfold Tb.logT; rw [hx]; simp [hle]
    rw [e]
    clear e HOK HC r ho hx ht
    generalize x.last = b at *
    generalize B t = g at *
    go_enter Try.func12, Try.ntmps12
    go_wp2_with fail
    refine K.out.mono ?_
    rintro e w1 ⟨rfl, rfl⟩
    go_wp2
    go_ret
    exact OutT.same H.out _
  have e : l.logT t a = (l.set { x with last := a, first := if x.first = 0 then a else x.first }, 0) := by unfold Tb.logT; rw [hx]; simp [hle]
  rw [e] at HOK ⊢
  clear e H
  by_cases h0 : x.first = 0
  · rw [if_pos h0] at HOK ⊢
    have FIN : Hid (IsTab ((w.setCell ⟨B t, 1, none⟩ (.int .i64 a)).setCell ⟨B t, 2, none⟩ (.int .i64 a)) (fun b => F b ∨ (V t).ownBlock = some b) q (l.set { x with last := a, first := a }) ∧ Step F (fun b => F b ∨ (V t).ownBlock = some b) w ((w.setCell ⟨B t, 1, none⟩ (.int .i64 a)).setCell ⟨B t, 2, none⟩ (.int .i64 a))) :=
      r.stored hx ht ((HC.out.set 1 (.int .i64 a)).set 2 (.int .i64 a)) rfl (((Step.refl (fun b => b = B t) w).set (p := ⟨B t, 1, none⟩) rfl _).set (p := ⟨B t, 2, none⟩) rfl _) HOK.out
    have c2' := (HC.out.set 1 (.int .i64 a)).cell 2
    have z2' := (HC.out.set 1 (.int .i64 a)).frozen 2
    simp [stCells] at c2'
    clear HOK HC r ho hx ht
    generalize (fun b => F b ∨ (V t).ownBlock = some b) = F' at *
    generalize x.last = b at *
    generalize x.first = d at *
    generalize B t = g at *
    subst h0
    go_enter Try.func12, Try.ntmps12
    go_wp2_with fail
    refine K.out.mono ?_
    rintro e w1 ⟨rfl, rfl⟩
    go_wp2
    go_ret
    exact ⟨_, rfl, FIN.out.1, FIN.out.2⟩
  · rw [if_neg h0] at HOK ⊢
    have h0' : (x.first == 0) = false := by simpa using h0
    have FIN : Hid (IsTab (w.setCell ⟨B t, 2, none⟩ (.int .i64 a)) (fun b => F b ∨ (V t).ownBlock = some b) q (l.set { x with last := a, first := x.first }) ∧ Step F (fun b => F b ∨ (V t).ownBlock = some b) w (w.setCell ⟨B t, 2, none⟩ (.int .i64 a))) :=
      r.stored hx ht (HC.out.set 2 (.int .i64 a)) rfl ((Step.refl (fun b => b = B t) w).set (p := ⟨B t, 2, none⟩) rfl _) HOK.out
    clear HOK HC r ho hx ht h0
    generalize (fun b => F b ∨ (V t).ownBlock = some b) = F' at *
    generalize hb : x.last = b at *
    generalize hd : x.first = d at *
    clear hb hd
    generalize B t = g at *
    go_enter Try.func12, Try.ntmps12
    go_wp2_with fail
    refine K.out.mono ?_
    rintro e w1 ⟨rfl, rfl⟩
    go_wp2
    go_ret
    exact ⟨_, rfl, FIN.out.1, FIN.out.2⟩
theorem tbLog_any (h : IsTab w F q l) (t a : Int) :
    Calls Try.prog 12 #[.pointer (some ⟨q, 0, none⟩), .int .i64 t, .int .i64 a] w (OutT w F q (l.logT t a).1 (.int .i64 (l.logT t a).2)) := by
  cases hx : l.at_ t with
  | none =>
    have e : l.logT t a = (l, 7) := by unfold Tb.logT; rw [hx]
    rw [e]
    exact tbLog_none h t a hx
  | some x => exact tbLog_some h t a hx
set_option maxRecDepth 100000 in
set_option maxHeartbeats 8000000 in
theorem tbLeft_none (h : IsTab w F q l) (t a : Int) (hx : l.at_ t = none) :
    Calls Try.prog 14 #[.pointer (some ⟨q, 0, none⟩), .int .i64 t, .int .i64 a] w (OutT w F q l (.int .i64 7)) := by
  have H := Lib.hid h
  obtain ⟨ho, m, B, V, r⟩ := h
  have K := Lib.hid (tbFind_none r hx)
  clear r ho hx
  go_enter Try.func14, Try.ntmps14
  go_wp2_with fail
  refine K.out.mono ?_
  rintro e w1 ⟨rfl, rfl⟩
  go_wp2
  go_ret
  exact OutT.same H.out _
set_option maxRecDepth 100000 in
set_option maxHeartbeats 8000000 in
theorem tbLeft_some (h : IsTab w F q l) (t d : Int) {x : Tx} (hx : l.at_ t = some x) :
    Calls Try.prog 14 #[.pointer (some ⟨q, 0, none⟩), .int .i64 t, .int .i64 d] w (OutT w F q (l.leftT t d).1 (.int .i64 (l.leftT t d).2)) := by
  have HOK := Lib.hid (h.1.leftT t d)
  have H := Lib.hid h
  obtain ⟨ho, m, B, V, r⟩ := h
  have K := Lib.hid (tbFind_some r hx)
  have ht := (Tb.at_some hx).2
  have HC := Lib.hid (r.cells hx)
  have c3 := HC.out.cell 3
  have z3 := HC.out.frozen 3
  simp [stCells] at c3
  obtain ⟨l0, l1⟩ := ho.left x (Tb.at_some hx).1
  by_cases hbad : d < -1048576 ∨ 1048576 < d ∨ x.left + d < 0 ∨ 1048576 < x.left + d
  · have e : l.leftT t d = (l, 1) := by unfold Tb.leftT; rw [hx]; simp only [if_pos hbad]
    rw [e]
    have t1 : decide (d < -x.left) = true ∨ (decide (d < -x.left) = false ∧ decide (1048576 - x.left < d) = true) := by
      by_cases hd : d < -x.left
      · exact .inl (decide_eq_true hd)
      · exact .inr ⟨decide_eq_false hd, decide_eq_true (by omega)⟩
    have n1 : IntKind.i64.wrap (-x.left) = -x.left := IntWalk.i64_in _ (by omega)
    have n2 : IntKind.i64.wrap (1048576 - x.left) = 1048576 - x.left := IntWalk.i64_in _ (by omega)
    clear e HOK HC r ho hx ht hbad l0 l1
    generalize x.left = b at *
    generalize B t = g at *
    rcases t1 with t1 | ⟨t1, t2⟩ <;> (
      go_enter Try.func14, Try.ntmps14
      go_wp2_with fail
      refine K.out.mono ?_
      rintro e w1 ⟨rfl, rfl⟩
      go_wp2
      go_ret
      exact OutT.same H.out _)
  · have e : l.leftT t d = (l.set { x with left := x.left + d }, 0) := by unfold Tb.leftT; rw [hx]; simp only [if_neg hbad]
    rw [e] at HOK ⊢
    have t1 : decide (d < -x.left) = false := decide_eq_false (by omega)
    have t2 : decide (1048576 - x.left < d) = false := decide_eq_false (by omega)
    have n1 : IntKind.i64.wrap (-x.left) = -x.left := IntWalk.i64_in _ (by omega)
    have n2 : IntKind.i64.wrap (1048576 - x.left) = 1048576 - x.left := IntWalk.i64_in _ (by omega)
    have n3 : IntKind.i64.wrap (x.left + d) = x.left + d := IntWalk.i64_in _ (by omega)
    have FIN : Hid (IsTab (w.setCell ⟨B t, 3, none⟩ (.int .i64 (x.left + d))) (fun b => F b ∨ (V t).ownBlock = some b) q (l.set { x with left := x.left + d }) ∧ Step F (fun b => F b ∨ (V t).ownBlock = some b) w (w.setCell ⟨B t, 3, none⟩ (.int .i64 (x.left + d)))) :=
      r.stored hx ht (HC.out.set 3 (.int .i64 (x.left + d))) rfl ((Step.refl (fun b => b = B t) w).set (p := ⟨B t, 3, none⟩) rfl _) HOK.out
    clear e H HOK HC r ho hx ht hbad l0 l1
    generalize (fun b => F b ∨ (V t).ownBlock = some b) = F' at *
    generalize hb : x.left = b at *
    clear hb
    generalize B t = g at *
    go_enter Try.func14, Try.ntmps14
    go_wp2_with fail
    refine K.out.mono ?_
    rintro e w1 ⟨rfl, rfl⟩
    go_wp2
    go_ret
    exact ⟨_, rfl, FIN.out.1, FIN.out.2⟩
theorem tbLeft_any (h : IsTab w F q l) (t d : Int) :
    Calls Try.prog 14 #[.pointer (some ⟨q, 0, none⟩), .int .i64 t, .int .i64 d] w (OutT w F q (l.leftT t d).1 (.int .i64 (l.leftT t d).2)) := by
  cases hx : l.at_ t with
  | none =>
    have e : l.leftT t d = (l, 7) := by unfold Tb.leftT; rw [hx]
    rw [e]
    exact tbLeft_none h t d hx
  | some x => exact tbLeft_some h t d hx
end
end Go.Proofs.Ytfbghdkbimnnbaa
