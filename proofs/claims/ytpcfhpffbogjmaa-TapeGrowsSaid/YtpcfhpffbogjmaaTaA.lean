/- slices.Clone of a record's rows: as they were, in memory of their own. -/
import Derived.Test.YtpcfhpffbogjmaaRecD
import Derived.Lib.SliceRun
import Derived.Laws.Externs
import Derived.Shelf.SlMaps.Clone
namespace Go.Proofs.Ytpcfhpffbogjmaa
open Go.RowKit

theorem ownsRow_empty3 (w : World) (e size : Nat) : (w.alloc (.cells #[] e)).ownsRow w.heap.size e size (.slice (some ⟨w.heap.size, 0, none⟩) 0 0) 0 [] :=
  ⟨by simp, .inr ⟨w.heap.size, 0, #[], rfl, Nat.le_refl _, heap_alloc_new w _, Nat.le_refl _, by decide, by simp, by simp⟩⟩
theorem ta_info2 : (Try.prog.info? 94).map (fun i => (i.zero, i.size, i.bytes)) = some (some (.agg #[.int .i64 0, .int .i64 0]), 2, 16) := by kernel_rfl
theorem rows3_one (l : List Row3) : ∀ u ∈ rows3 l, u.oneCell' = true := by
  intro u hu
  obtain ⟨x, _, hx⟩ := List.mem_flatMap.1 hu
  simp [cells3] at hx
  rcases hx with rfl | rfl | rfl <;> rfl
set_option maxRecDepth 100000 in
set_option maxHeartbeats 2000000 in
theorem cloneRows3 (l : List Row3) (v : Value) (w : World) (h : Elems w v l.length (rows3 l)) (hl : l.length ≤ 1000) :
    Calls Try.prog 43 #[v] w fun e w' => ∃ v', e = .returned v' ∧ Elems w' v' l.length (rows3 l) ∧ (∀ b, v'.ownBlock = some b → w.heap.size ≤ b) ∧ Below w.heap.size w w' := by
  obtain ⟨i0, hi0, hz0, hz1, hz2⟩ := info_parts info_txn
  obtain ⟨a, cap, rfl, h1, h2, hx⟩ := h
  cases a with
  | none =>
    have h0 : l = [] := by
      cases l with
      | nil => rfl
      | cons x l => obtain ⟨b, off, e, _⟩ := hx 0 _ rfl; cases e
    subst h0
    have hq := fun w => Lib.run_eql_slice_nil (P := Try.prog) w 47 _ none 0 cap 0 0 Try.underlying47
    clear hx h1 h2 hl
    go_enter Try.func43, Try.ntmps43
    go_wp2
    go_ret
    exact ⟨_, rfl, Elems.nil _, fun b hb => by simp [Value.ownBlock] at hb, Below.refl _ _⟩
  | some ad =>
    have hcs : ∀ j u, (rows3 l)[j]? = some u → (w.alloc (.cells #[] 91)).cell? (ad.add j) = some u := fun j u hj => by
      obtain ⟨b, off, e, hc⟩ := hx j u hj
      cases e
      have e2 : (⟨b, off, none⟩ : Addr).add j = ⟨b, off + j, none⟩ := by unfold Addr.add; split <;> simp_all
      rw [e2]
      exact (((Below.refl w.heap.size w).alloc (Nat.le_refl _) (.cells #[] 91)).cell (p := ⟨b, off + j, none⟩) (World.block_lt_of_cell? w ⟨b, off + j, none⟩ hc)).trans hc
    have HS := Lib.hid hcs
    have H1 := Lib.hid (rows3_one l)
    have HL := Lib.hid (show (rows3 l).length = l.length * 3 from rows3_len l)
    clear hx hcs
    have hq := fun w => Lib.run_eql_slice_nil (P := Try.prog) w 47 _ (some ad) l.length cap 0 0 Try.underlying47
    go_enter Try.func43, Try.ntmps43
    go_wp2_with (at_builtin; refine wpList_append_own _ rfl (.tmp 5) (.tmp 6) 47 rfl w.heap.size 91 i0 (.agg #[.int .i64 0, .int .i64 0, .int .i64 0]) 3 24 Try.underlying47 hi0 hz0 hz1 hz2 rfl (by decide) _ _ _ rfl (ownsRow_empty3 w _ 3) ad l.length cap (rows3 l) rfl HL.out HS.out H1.out (by simp only [maxLen]; omega) (by omega) (by simp) ?_)
    intro v' w1 hown hgrow _
    have hb : Below w.heap.size w w1 := ((Below.refl _ _).alloc (Nat.le_refl _) _).grown hgrow (by simp) (fun k hk => by simp [Value.ownBlock] at hk; omega)
    have HOW := Lib.hid hown
    have HLT := Lib.hid hown.lt
    clear hown hgrow
    go_wp2
    go_ret
    exact ⟨_, rfl, by have := Elems.ofOwn HOW.out; simpa using this, fun b hb => (HLT.out b hb).1, hb⟩
theorem rows2_one (l : List Row2) : ∀ u ∈ rows2 l, u.oneCell' = true := by
  intro u hu
  obtain ⟨x, _, hx⟩ := List.mem_flatMap.1 hu
  simp [cells2] at hx
  rcases hx with rfl | rfl <;> rfl
set_option maxRecDepth 100000 in
set_option maxHeartbeats 2000000 in
theorem cloneRows2 (l : List Row2) (v : Value) (w : World) (h : Elems w v l.length (rows2 l)) (hl : l.length ≤ 1000) :
    Calls Try.prog 44 #[v] w fun e w' => ∃ v', e = .returned v' ∧ Elems w' v' l.length (rows2 l) ∧ (∀ b, v'.ownBlock = some b → w.heap.size ≤ b) ∧ Below w.heap.size w w' := by
  obtain ⟨i0, hi0, hz0, hz1, hz2⟩ := info_parts ta_info2
  obtain ⟨a, cap, rfl, h1, h2, hx⟩ := h
  cases a with
  | none =>
    have h0 : l = [] := by
      cases l with
      | nil => rfl
      | cons x l => obtain ⟨b, off, e, _⟩ := hx 0 _ rfl; cases e
    subst h0
    have hq := fun w => Lib.run_eql_slice_nil (P := Try.prog) w 48 _ none 0 cap 0 0 Try.underlying48
    clear hx h1 h2 hl
    go_enter Try.func44, Try.ntmps44
    go_wp2
    go_ret
    exact ⟨_, rfl, Elems.nil _, fun b hb => by simp [Value.ownBlock] at hb, Below.refl _ _⟩
  | some ad =>
    have hcs : ∀ j u, (rows2 l)[j]? = some u → (w.alloc (.cells #[] 94)).cell? (ad.add j) = some u := fun j u hj => by
      obtain ⟨b, off, e, hc⟩ := hx j u hj
      cases e
      have e2 : (⟨b, off, none⟩ : Addr).add j = ⟨b, off + j, none⟩ := by unfold Addr.add; split <;> simp_all
      rw [e2]
      exact (((Below.refl w.heap.size w).alloc (Nat.le_refl _) (.cells #[] 94)).cell (p := ⟨b, off + j, none⟩) (World.block_lt_of_cell? w ⟨b, off + j, none⟩ hc)).trans hc
    have HS := Lib.hid hcs
    have H1 := Lib.hid (rows2_one l)
    have HL := Lib.hid (show (rows2 l).length = l.length * 2 from rows2_len l)
    clear hx hcs
    have hq := fun w => Lib.run_eql_slice_nil (P := Try.prog) w 48 _ (some ad) l.length cap 0 0 Try.underlying48
    go_enter Try.func44, Try.ntmps44
    go_wp2_with (at_builtin; refine wpList_append_own _ rfl (.tmp 5) (.tmp 6) 48 rfl w.heap.size 94 i0 (.agg #[.int .i64 0, .int .i64 0]) 2 16 Try.underlying48 hi0 hz0 hz1 hz2 rfl (by decide) _ _ _ rfl (ownsRow_empty3 w _ 2) ad l.length cap (rows2 l) rfl HL.out HS.out H1.out (by simp only [maxLen]; omega) (by omega) (by simp) ?_)
    intro v' w1 hown hgrow _
    have hb : Below w.heap.size w w1 := ((Below.refl _ _).alloc (Nat.le_refl _) _).grown hgrow (by simp) (fun k hk => by simp [Value.ownBlock] at hk; omega)
    have HOW := Lib.hid hown
    have HLT := Lib.hid hown.lt
    clear hown hgrow
    go_wp2
    go_ret
    exact ⟨_, rfl, by have := Elems.ofOwn HOW.out; simpa using this, fun b hb => (HLT.out b hb).1, hb⟩
end Go.Proofs.Ytpcfhpffbogjmaa
