/- Two lists of records, of places: careenref11.Same, careenref09.Same of what is the same. -/
import Derived.Test.YtecalnglidjmgaaChM
import Derived.Test.YtecalnglidjmgaaChL
import Derived.Test.YtecalnglidjmgaaRecK
namespace Go.Proofs.Ytecalnglidjmgaa
open Go.RowKit

theorem recsN_len (l : List Rc) : (recsN l).length = l.length * 11 := by
  induction l with
  | nil => rfl
  | cons r l ih => show (recL r ++ recsN l).length = _; rw [List.length_append, ih, recL_len, List.length_cons]; omega
theorem recsN_at : ∀ (l : List Rc) (j : Nat) (h : j < l.length) (i : Nat) (_ : i < 11), (recsN l)[j * 11 + i]? = (recL l[j])[i]?
  | [], j, h, _, _ => by simp at h
  | x :: l, 0, _, i, hi => by
    show (recL x ++ recsN l)[0 * 11 + i]? = (recL x)[i]?
    rw [List.getElem?_append_left (by rw [recL_len]; omega)]
    simp
  | x :: l, j + 1, h, i, hi => by
    show (recL x ++ recsN l)[(j + 1) * 11 + i]? = _
    rw [List.getElem?_append_right (by rw [recL_len]; omega), recL_len, show (j + 1) * 11 + i - 11 = j * 11 + i by omega, recsN_at l j (by simpa using h) i hi]
    rfl
/-- A slice that reads as these records. -/
def RecsE (w : World) (v : Value) (l : List Rc) : Prop := Elems w v l.length (recsN l)
theorem RecsE.at_ {w : World} {v : Value} {l : List Rc} (h : RecsE w v l) (j : Nat) (hj : j < l.length) : ∃ b off cap, v = .slice (some ⟨b, off, none⟩) l.length cap ∧ l.length ≤ cap ∧ b < w.heap.size ∧ ∀ i x, (recL l[j])[i]? = some x → w.cell? ⟨b, off + j * 11 + i, none⟩ = some x := by
  have hne : recsN l ≠ [] := fun e => by have := recsN_len l; rw [e] at this; simp at this; omega
  obtain ⟨b, off, cap, rfl, hc, _, hb, hx⟩ := Elems.cases h hne
  refine ⟨b, off, cap, rfl, hc, hb, fun i x hi => ?_⟩
  have hi2 : i < 11 := by
    have := (List.getElem?_eq_some_iff.1 hi).1
    rwa [recL_len] at this
  rw [Nat.add_assoc]
  exact hx (j * 11 + i) x (by rw [recsN_at l j hj i hi2]; exact hi)

set_option maxRecDepth 100000 in
set_option maxHeartbeats 16000000 in
theorem refSame11 {w : World} {va vb : Value} {l : List Rc} (ha : RecsE w va l) (hb : RecsE w vb l) (hn : ∀ r ∈ l, r.txns = [] ∧ r.pages = []) :
    Calls Try.prog 17 #[va, vb] w fun e w' => e = .returned (.bool true) ∧ Below w.heap.size w w' := by
  have HA := Lib.hid ha
  have HB := Lib.hid hb
  obtain ⟨aa, ca, rfl⟩ := Elems.form ha
  obtain ⟨ab, cb, rfl⟩ := Elems.form hb
  have hl := Elems.le ha
  unfold maxLen at hl
  clear ha hb
  go_enter Try.func17, Try.ntmps17
  go_wp2_with fail
  go_loopw [5] (fun vk wr => ∃ k : Nat, k ≤ l.length ∧ vk = .int .i64 k ∧ Below w.heap.size w wr) (fun vk _ => l.length - (intOf vk).toNat)
  case atStart => exact ⟨0, Nat.zero_le _, rfl, Below.refl _ _⟩
  case round =>
    obtain ⟨k, hk, rfl, hB⟩ := hrel
    have HBK := Lib.hid hB
    clear hB
    by_cases hlt : k < l.length
    · have HA2 : RecsE wr _ l := Elems.keep HA.out HBK.out
      have HB2 : RecsE wr _ l := Elems.keep HB.out HBK.out
      obtain ⟨b1, o1, c1', e1, hc1, lt1, da1⟩ := HA2.at_ k hlt
      obtain ⟨b2, o2, c2', e2, hc2, lt2, da2⟩ := HB2.at_ k hlt
      simp only [Value.slice.injEq, true_and] at e1 e2
      obtain ⟨rfl, rfl⟩ := e1
      obtain ⟨rfl, rfl⟩ := e2
      clear HA2 HB2
      have hx := hn _ (List.getElem_mem hlt)
      generalize l[k] = x at *
      have EX := Lib.hid (show ∀ W, Below wr.drew.heap.size wr.drew W → (W.cell? ⟨b1, o1 + k * 11, none⟩ = some (.int .i64 x.kind) ∧ W.cell? ⟨b1, o1 + k * 11 + 1, none⟩ = some (.int .i64 x.txn) ∧ W.cell? ⟨b1, o1 + k * 11 + 2, none⟩ = some (.int .i64 x.page) ∧ W.cell? ⟨b1, o1 + k * 11 + 3, none⟩ = some (.int .i64 x.off) ∧ W.cell? ⟨b1, o1 + k * 11 + 4, none⟩ = some (.int .i64 x.prev) ∧ W.cell? ⟨b1, o1 + k * 11 + 5, none⟩ = some (.int .i64 x.next) ∧ W.cell? ⟨b1, o1 + k * 11 + 6, none⟩ = some (.int .i64 x.beg) ∧ W.cell? ⟨b1, o1 + k * 11 + 7, none⟩ = some (.string x.before) ∧ W.cell? ⟨b1, o1 + k * 11 + 8, none⟩ = some (.string x.after) ∧ W.cell? ⟨b1, o1 + k * 11 + 9, none⟩ = some (.slice none 0 0) ∧ W.cell? ⟨b1, o1 + k * 11 + 10, none⟩ = some (.slice none 0 0)) ∧ (W.cell? ⟨b2, o2 + k * 11, none⟩ = some (.int .i64 x.kind) ∧ W.cell? ⟨b2, o2 + k * 11 + 1, none⟩ = some (.int .i64 x.txn) ∧ W.cell? ⟨b2, o2 + k * 11 + 2, none⟩ = some (.int .i64 x.page) ∧ W.cell? ⟨b2, o2 + k * 11 + 3, none⟩ = some (.int .i64 x.off) ∧ W.cell? ⟨b2, o2 + k * 11 + 4, none⟩ = some (.int .i64 x.prev) ∧ W.cell? ⟨b2, o2 + k * 11 + 5, none⟩ = some (.int .i64 x.next) ∧ W.cell? ⟨b2, o2 + k * 11 + 6, none⟩ = some (.int .i64 x.beg) ∧ W.cell? ⟨b2, o2 + k * 11 + 7, none⟩ = some (.string x.before) ∧ W.cell? ⟨b2, o2 + k * 11 + 8, none⟩ = some (.string x.after) ∧ W.cell? ⟨b2, o2 + k * 11 + 9, none⟩ = some (.slice none 0 0) ∧ W.cell? ⟨b2, o2 + k * 11 + 10, none⟩ = some (.slice none 0 0)) from
        fun W h => ⟨⟨(h.cell (p := ⟨b1, o1 + k * 11 + 0, none⟩) lt1).trans (da1 0 _ rfl), (h.cell (p := ⟨b1, o1 + k * 11 + 1, none⟩) lt1).trans (da1 1 _ rfl), (h.cell (p := ⟨b1, o1 + k * 11 + 2, none⟩) lt1).trans (da1 2 _ rfl), (h.cell (p := ⟨b1, o1 + k * 11 + 3, none⟩) lt1).trans (da1 3 _ rfl), (h.cell (p := ⟨b1, o1 + k * 11 + 4, none⟩) lt1).trans (da1 4 _ rfl), (h.cell (p := ⟨b1, o1 + k * 11 + 5, none⟩) lt1).trans (da1 5 _ rfl), (h.cell (p := ⟨b1, o1 + k * 11 + 6, none⟩) lt1).trans (da1 6 _ rfl), (h.cell (p := ⟨b1, o1 + k * 11 + 7, none⟩) lt1).trans (da1 7 _ rfl), (h.cell (p := ⟨b1, o1 + k * 11 + 8, none⟩) lt1).trans (da1 8 _ rfl), (h.cell (p := ⟨b1, o1 + k * 11 + 9, none⟩) lt1).trans (da1 9 _ rfl), (h.cell (p := ⟨b1, o1 + k * 11 + 10, none⟩) lt1).trans (da1 10 _ rfl)⟩, ⟨(h.cell (p := ⟨b2, o2 + k * 11 + 0, none⟩) lt2).trans (da2 0 _ rfl), (h.cell (p := ⟨b2, o2 + k * 11 + 1, none⟩) lt2).trans (da2 1 _ rfl), (h.cell (p := ⟨b2, o2 + k * 11 + 2, none⟩) lt2).trans (da2 2 _ rfl), (h.cell (p := ⟨b2, o2 + k * 11 + 3, none⟩) lt2).trans (da2 3 _ rfl), (h.cell (p := ⟨b2, o2 + k * 11 + 4, none⟩) lt2).trans (da2 4 _ rfl), (h.cell (p := ⟨b2, o2 + k * 11 + 5, none⟩) lt2).trans (da2 5 _ rfl), (h.cell (p := ⟨b2, o2 + k * 11 + 6, none⟩) lt2).trans (da2 6 _ rfl), (h.cell (p := ⟨b2, o2 + k * 11 + 7, none⟩) lt2).trans (da2 7 _ rfl), (h.cell (p := ⟨b2, o2 + k * 11 + 8, none⟩) lt2).trans (da2 8 _ rfl), (h.cell (p := ⟨b2, o2 + k * 11 + 9, none⟩) lt2).trans (da2 9 _ rfl), (h.cell (p := ⟨b2, o2 + k * 11 + 10, none⟩) lt2).trans (da2 10 _ rfl)⟩⟩)
      have SM := Lib.hid (fun W => refSame_any (w := W) (a := x) (b := x) (va := recV x (.slice none 0 0) (.slice none 0 0)) (vb := recV x (.slice none 0 0) (.slice none 0 0)) ⟨_, _, rfl, Lists.nil W x hx.1 hx.2⟩ ⟨_, _, rfl, Lists.nil W x hx.1 hx.2⟩ true (by simp))
      unfold recV recCells at SM
      clear hx
      clear da1 da2
      go_wp2_with fail
      refine' wp_region_conf 10 (.is _ :: .is _ :: .is _ :: .is _ :: .is _ :: .is _ :: .is _ :: .is _ :: .is _ :: .is _ :: []) (by kernel_rfl) (by kernel_rfl) (by kernel_rfl) (by kernel_rfl) rfl ?main
      case main =>
        iterate 10
          refine obs_is (fun w4 hE4 _ => ?_) ?_
          · obtain ⟨⟨a0, a1, a2, a3, a4, a5, a6, a7, a8, a9, a10⟩, ⟨d0, d1, d2, d3, d4, d5, d6, d7, d8, d9, d10⟩⟩ := EX.out w4 hE4
            go_wp2_with (go_at_call 29; refine (SM.out _).mono ?_; rintro e w5 ⟨rfl, hb5⟩)
            first | exact post_is hb5 | exact post_is (Below.refl _ _)
          simp only [Act.put, List.setIfInBounds_toArray, List.set_cons_zero, List.set_cons_succ]
        refine obs_end fun w3 hE3 _ => ?_
        have B3 := Lib.hid ((Below.refl wr.heap.size wr).drew.trans hE3)
        clear hE3 EX SM
        change wpList _ _ _ _ _ _
        go_wp2
        exact ⟨⟨k + 1, hlt, by simp, below2 HBK.out B3.out⟩, by simp [intOf]; omega⟩
    · obtain rfl : k = l.length := by omega
      go_wp2
      go_ret
      exact ⟨rfl, HBK.out⟩
set_option maxRecDepth 100000 in
set_option maxHeartbeats 8000000 in
theorem refSame9P {w : World} {va vb : Value} {l : List Int} (ha : Elems w va l.length (placesV l)) (hb : Elems w vb l.length (placesV l)) :
    Calls Try.prog 16 #[va, vb] w fun e w' => e = .returned (.bool true) ∧ Below w.heap.size w w' := by
  have HA := Lib.hid ha
  have HB := Lib.hid hb
  obtain ⟨aa, ca, rfl⟩ := Elems.form ha
  obtain ⟨ab, cb, rfl⟩ := Elems.form hb
  have hl := Elems.le ha
  unfold maxLen at hl
  clear ha hb
  go_enter Try.func16, Try.ntmps16
  go_wp2_with fail
  go_loopw [5] (fun vk wr => ∃ k : Nat, k ≤ l.length ∧ vk = .int .i64 k ∧ Below w.heap.size w wr) (fun vk _ => l.length - (intOf vk).toNat)
  case atStart => exact ⟨0, Nat.zero_le _, rfl, Below.refl _ _⟩
  case round =>
    obtain ⟨k, hk, rfl, hB⟩ := hrel
    have HBK := Lib.hid hB
    clear hB
    by_cases hlt : k < l.length
    · have hne : placesV l ≠ [] := fun e => by have := congrArg List.length e; simp [placesV] at this; subst this; simp at hlt
      obtain ⟨b1, o1, c1', e1, hc1, _, lt1, da1⟩ := Elems.cases (Elems.keep HA.out HBK.out) hne
      obtain ⟨b2, o2, c2', e2, hc2, _, lt2, da2⟩ := Elems.cases (Elems.keep HB.out HBK.out) hne
      simp only [Value.slice.injEq, true_and] at e1 e2
      obtain ⟨rfl, rfl⟩ := e1
      obtain ⟨rfl, rfl⟩ := e2
      have hv : (placesV l)[k]? = some (.int .i64 l[k]) := by simp [placesV, hlt]
      have d1 := da1 k _ hv
      have d2 := da2 k _ hv
      clear da1 da2 hv hne
      generalize l[k] = x at *
      go_wp2_with (go_quiet (fail))
      exact ⟨⟨k + 1, hlt, by simp, HBK.out.trans (belowN (Below.refl _ _) _)⟩, by simp [intOf]; omega⟩
    · obtain rfl : k = l.length := by omega
      go_wp2
      go_ret
      exact ⟨rfl, HBK.out⟩
end Go.Proofs.Ytecalnglidjmgaa
