/- Lists of pages in memory: as they came in, and as one owns them; held against one another (slices.Equal, careenref14.Same, redo.Same). -/
import Derived.Test.YtkodnjefdophmaaRdP
import Derived.Test.YtkodnjefdophmaaRecM
import Derived.Test.YtkodnjefdophmaaOpenL
import Derived.Test.YtkodnjefdophmaaOpenRec
import Derived.Test.YtkodnjefdophmaaPgEq
namespace Go.Proofs.Ytkodnjefdophmaa
open Go.RowKit

def pgCells (p : Hs.Pge) : List Value := [.int .i64 p.1, .string p.2]
def pgV (l : List Hs.Pge) : List Value := l.flatMap pgCells
theorem pgV_len (l : List Hs.Pge) : (pgV l).length = l.length * 2 := by
  induction l with
  | nil => rfl
  | cons x l ih => show (pgCells x ++ pgV l).length = _; rw [List.length_append, ih, List.length_cons]; show 2 + _ = _; omega
theorem pgV_snoc (l : List Hs.Pge) (x : Hs.Pge) : pgV (l ++ [x]) = pgV l ++ pgCells x := by simp [pgV]
theorem pgV_at : ∀ (l : List Hs.Pge) (k : Nat) (h : k < l.length), (pgV l)[k * 2]? = some (.int .i64 l[k].1) ∧ (pgV l)[k * 2 + 1]? = some (.string l[k].2)
  | [], k, h => by simp at h
  | x :: l, 0, _ => ⟨rfl, rfl⟩
  | x :: l, k + 1, h => by
    have ih := pgV_at l k (by simpa using h)
    have e : (pgCells x).length = 2 := rfl
    show (pgCells x ++ pgV l)[(k + 1) * 2]? = _ ∧ (pgCells x ++ pgV l)[(k + 1) * 2 + 1]? = _
    rw [List.getElem?_append_right (by omega), List.getElem?_append_right (by omega), e, show (k + 1) * 2 - 2 = k * 2 by omega, show (k + 1) * 2 + 1 - 2 = k * 2 + 1 by omega]
    exact ih
theorem pgV_ne {l : List Hs.Pge} {k : Nat} (h : k < l.length) : pgV l ≠ [] := fun e => by
  have := congrArg List.length e
  rw [pgV_len] at this
  simp only [List.length_nil] at this
  omega
/-- A page's two cells are set. -/
theorem pgV_set : ∀ (l : List Hs.Pge) (k : Nat) (_ : k < l.length) (p : Hs.Pge), ((pgV l).set (k * 2) (.int .i64 p.1)).set (k * 2 + 1) (.string p.2) = pgV (l.set k p)
  | [], k, h, _ => by simp at h
  | x :: l, 0, _, p => rfl
  | x :: l, k + 1, h, p => by
    have ih := pgV_set l k (by simpa using h) p
    have e : (pgCells x).length = 2 := rfl
    show ((pgCells x ++ pgV l).set ((k + 1) * 2) _).set ((k + 1) * 2 + 1) _ = pgCells x ++ pgV (l.set k p)
    rw [List.set_append_right _ _ (by omega), List.set_append_right _ _ (by omega), e, show (k + 1) * 2 - 2 = k * 2 by omega, show (k + 1) * 2 + 1 - 2 = k * 2 + 1 by omega, ih]
theorem pgV_set1 (l : List Hs.Pge) (k : Nat) (h : k < l.length) : (pgV l).set (k * 2 + 1) (.string l[k].2) = pgV l := by
  refine List.ext_getElem? fun j => ?_
  by_cases e : k * 2 + 1 = j
  · subst e
    rw [List.getElem?_set_self (by rw [pgV_len]; omega), (pgV_at l k h).2]
  · rw [List.getElem?_set_ne e]

/-- A list of pages. -/
def IsPgs (w : World) (v : Value) (l : List Hs.Pge) : Prop := Elems w v l.length (pgV l)
namespace IsPgs
variable {w w' : World} {v : Value} {l : List Hs.Pge}
theorem nil (w : World) : IsPgs w (.slice none 0 0) [] := Elems.nil w
theorem keep (h : IsPgs w v l) (hb : Below w.heap.size w w') : IsPgs w' v l := Elems.keep h hb
theorem form (h : IsPgs w v l) : ∃ a cap, v = .slice a l.length cap := Elems.form h
theorem at_ (h : IsPgs w v l) {k : Nat} (hk : k < l.length) : ∃ b off cap, v = .slice (some ⟨b, off, none⟩) l.length cap ∧ l.length ≤ cap ∧ cap ≤ maxLen ∧ b < w.heap.size ∧
    ∀ j (hj : j < l.length), w.cell? ⟨b, off + j * 2, none⟩ = some (.int .i64 l[j].1) ∧ w.cell? ⟨b, off + j * 2 + 1, none⟩ = some (.string l[j].2) := by
  obtain ⟨b, off, cap, e, h1, h2, h3, hc⟩ := Elems.cases h (pgV_ne hk)
  refine ⟨b, off, cap, e, h1, h2, h3, fun j hj => ?_⟩
  obtain ⟨e1, e2⟩ := pgV_at l j hj
  exact ⟨hc _ _ e1, by have := hc _ _ e2; rwa [← Nat.add_assoc] at this⟩
theorem ofOwn {base e : Nat} (h : w.ownsRow base e 2 v l.length (pgV l)) : IsPgs w v l := Elems.ofOwn h
end IsPgs

theorem take_pge {l m : List Hs.Pge} {k : Nat} (h : l.take k = m.take k) (hl : k < l.length) (hm : k < m.length) (he : l[k] = m[k]) : l.take (k + 1) = m.take (k + 1) := by
  rw [List.take_succ_eq_append_getElem hl, List.take_succ_eq_append_getElem hm, h, he]
theorem take_pges {l m : List Hs.Pge} (h : l.take l.length = m.take l.length) (hl : l.length = m.length) : l = m := by
  rwa [List.take_length, hl, List.take_length] at h
theorem pge_iff (p q : Hs.Pge) : (p.1 == q.1 && p.2.toList == q.2.toList) = true ↔ p = q := by
  rw [Bool.and_eq_true, beq_iff_eq, beq_iff_eq]
  constructor
  · rintro ⟨h1, h2⟩
    refine Prod.ext h1 (str_ext ?_)
    rw [ByteArray.toList_eq, ByteArray.toList_eq] at h2
    exact h2
  · rintro rfl; exact ⟨rfl, rfl⟩

section
set_option maxRecDepth 100000
set_option maxHeartbeats 8000000
theorem equalPg_any {w : World} {va vb : Value} {l m : List Hs.Pge} (ha : IsPgs w va l) (hb : IsPgs w vb m) (yes : Bool) (hy : yes = decide (l = m)) :
    Calls Try.prog 24 #[va, vb] w fun e w' => e = .returned (.bool yes) ∧ Below w.heap.size w w' := by
  have HY := Lib.hid hy
  have HA := Lib.hid ha
  have HB := Lib.hid hb
  have hla := Elems.le ha
  have hlb := Elems.le hb
  unfold maxLen at hla hlb
  obtain ⟨aa, ac, hva⟩ := ha.form
  obtain ⟨ba, bc, hvb⟩ := hb.form
  subst hva hvb
  clear hy ha hb
  by_cases hlen : l.length = m.length
  · have hl1 : ((l.length : Int) != m.length) = false := by simp [hlen]
    have HL := Lib.hid hlen
    have hl2 : l.length ≤ m.length := by omega
    clear hlen
    go_enter Try.func24, Try.ntmps24
    go_wp2
    go_loopw [13] (fun vk wr => ∃ k : Nat, k ≤ l.length ∧ vk = .int .i64 k ∧ l.take k = m.take k ∧ Below w.heap.size w wr) (fun vk _ => l.length - (intOf vk).toNat)
    case atStart => exact ⟨0, Nat.zero_le _, rfl, by simp, Below.refl _ _⟩
    case round =>
      obtain ⟨k, hk, rfl, htk, hB⟩ := hrel
      have HT := Lib.hid htk
      clear htk
      by_cases hlt : k < l.length
      · have hltm : k < m.length := by omega
        obtain ⟨b1, o1, c1, hv, _, _, l1, g1⟩ := (HA.out.keep hB).at_ hlt
        obtain ⟨rfl, _, rfl⟩ := Value.slice.inj hv
        obtain ⟨b2, o2, c2, hv2, _, _, l2, g2⟩ := (HB.out.keep hB).at_ hltm
        obtain ⟨rfl, _, rfl⟩ := Value.slice.inj hv2
        obtain ⟨d0, d1⟩ := g1 k hlt
        obtain ⟨e0, e1⟩ := g2 k hltm
        have HS := Lib.hid (fun he => take_pge HT.out hlt hltm he)
        have HN := Lib.hid (show l[k] ≠ m[k] → l ≠ m from fun h e => h (by subst e; rfl))
        have HE := Lib.hid (pge_iff l[k] m[k])
        have hrun := fun W => page_neq l[k].1 m[k].1 l[k].2 m[k].2 W
        clear g1 g2 hv hv2
        generalize l[k] = x at *
        generalize m[k] = y at *
        obtain ⟨x0, x1⟩ := x
        obtain ⟨y0, y1⟩ := y
        simp only at *
        by_cases heq : (x0 == y0 && x1.toList == y1.toList) = true
        · have HQ := Lib.hid (HS.out (HE.out.1 heq))
          rw [heq, Bool.not_true] at hrun
          clear heq HE HS HN
          go_wp2_with fail
          go_quiet (fail)
          go_wp2
          go_roundw
          case rel => exact ⟨k + 1, by omega, by go_num, HQ.out, belowN hB _⟩
          case measure => simp [intOf]; omega
        · have hno : yes = false := by rw [HY.out, decide_eq_false (HN.out fun h => heq (HE.out.2 h))]
          rw [Bool.eq_false_iff.2 heq, Bool.not_false] at hrun
          subst hno
          clear heq HE HS HN HY
          go_wp2_with fail
          go_quiet (fail)
          go_wp2
          go_ret
          exact ⟨rfl, belowN hB _⟩
      · obtain rfl : k = l.length := by omega
        have hyes : yes = true := by rw [HY.out, decide_eq_true (take_pges HT.out HL.out)]
        subst hyes
        clear HY
        go_wp2
        go_ret
        exact ⟨rfl, hB⟩
  · have hl1 : ((l.length : Int) != m.length) = true := by simp; omega
    have hno : yes = false := by rw [HY.out, decide_eq_false (by rintro rfl; exact hlen rfl)]
    subst hno
    clear HY hlen
    go_enter Try.func24, Try.ntmps24
    go_wp2
    go_ret
    exact ⟨rfl, Below.refl _ _⟩
theorem rdSame_any {w : World} {va vb : Value} {l m : List Hs.Pge} (ha : IsPgs w va l) (hb : IsPgs w vb m) (yes : Bool) (hy : yes = decide (l = m)) :
    Calls Try.prog 16 #[va, vb] w fun e w' => e = .returned (.bool yes) ∧ Below w.heap.size w w' := by
  have C := Lib.hid (fun W (h : Below w.heap.size w W) => equalPg_any (ha.keep h) (hb.keep h) yes hy)
  obtain ⟨aa, ac, rfl⟩ := ha.form
  obtain ⟨ba, bc, rfl⟩ := hb.form
  clear ha hb hy
  go_enter Try.func16, Try.ntmps16
  go_wp2_with fail
  refine (C.out _ (Below.refl _ _)).mono ?_
  rintro e w1 ⟨rfl, hb⟩
  have HB := Lib.hid hb
  clear hb
  go_wp2
  go_ret
  exact ⟨rfl, HB.out⟩
theorem refSame14_any {w : World} {va vb : Value} {l m : List Hs.Pge} (ha : IsPgs w va l) (hb : IsPgs w vb m) (yes : Bool) (hy : yes = decide (l = m)) :
    Calls Try.prog 12 #[va, vb] w fun e w' => e = .returned (.bool yes) ∧ Below w.heap.size w w' := by
  have HY := Lib.hid hy
  have HA := Lib.hid ha
  have HB := Lib.hid hb
  have hla := Elems.le ha
  have hlb := Elems.le hb
  unfold maxLen at hla hlb
  obtain ⟨aa, ac, hva⟩ := ha.form
  obtain ⟨ba, bc, hvb⟩ := hb.form
  subst hva hvb
  clear hy ha hb
  by_cases hlen : l.length = m.length
  · have hl1 : ((l.length : Int) != m.length) = false := by simp [hlen]
    have HL := Lib.hid hlen
    have hl2 : l.length ≤ m.length := by omega
    clear hlen
    go_enter Try.func12, Try.ntmps12
    go_wp2
    go_loopw [5] (fun vk wr => ∃ k : Nat, k ≤ l.length ∧ vk = .int .i64 k ∧ l.take k = m.take k ∧ Below w.heap.size w wr) (fun vk _ => l.length - (intOf vk).toNat)
    case atStart => exact ⟨0, Nat.zero_le _, rfl, by simp, Below.refl _ _⟩
    case round =>
      obtain ⟨k, hk, rfl, htk, hB⟩ := hrel
      have HT := Lib.hid htk
      clear htk
      by_cases hlt : k < l.length
      · have hltm : k < m.length := by omega
        obtain ⟨b1, o1, c1, hv, _, _, l1, g1⟩ := (HA.out.keep hB).at_ hlt
        obtain ⟨rfl, _, rfl⟩ := Value.slice.inj hv
        obtain ⟨b2, o2, c2, hv2, _, _, l2, g2⟩ := (HB.out.keep hB).at_ hltm
        obtain ⟨rfl, _, rfl⟩ := Value.slice.inj hv2
        obtain ⟨d0, d1⟩ := g1 k hlt
        obtain ⟨e0, e1⟩ := g2 k hltm
        have HS := Lib.hid (fun he => take_pge HT.out hlt hltm he)
        have HN := Lib.hid (show l[k] ≠ m[k] → l ≠ m from fun h e => h (by subst e; rfl))
        have HE := Lib.hid (pge_iff l[k] m[k])
        have hrun := fun W => page_neq l[k].1 m[k].1 l[k].2 m[k].2 W
        clear g1 g2 hv hv2
        generalize l[k] = x at *
        generalize m[k] = y at *
        obtain ⟨x0, x1⟩ := x
        obtain ⟨y0, y1⟩ := y
        simp only at *
        by_cases heq : (x0 == y0 && x1.toList == y1.toList) = true
        · have HQ := Lib.hid (HS.out (HE.out.1 heq))
          rw [heq, Bool.not_true] at hrun
          clear heq HE HS HN
          go_wp2_with fail
          go_quiet (fail)
          go_wp2
          go_roundw
          case rel => exact ⟨k + 1, by omega, by go_num, HQ.out, belowN hB _⟩
          case measure => simp [intOf]; omega
        · have hno : yes = false := by rw [HY.out, decide_eq_false (HN.out fun h => heq (HE.out.2 h))]
          rw [Bool.eq_false_iff.2 heq, Bool.not_false] at hrun
          subst hno
          clear heq HE HS HN HY
          go_wp2_with fail
          go_quiet (fail)
          go_wp2
          go_ret
          exact ⟨rfl, belowN hB _⟩
      · obtain rfl : k = l.length := by omega
        have hyes : yes = true := by rw [HY.out, decide_eq_true (take_pges HT.out HL.out)]
        subst hyes
        clear HY
        go_wp2
        go_ret
        exact ⟨rfl, hB⟩
  · have hl1 : ((l.length : Int) != m.length) = true := by simp; omega
    have hno : yes = false := by rw [HY.out, decide_eq_false (by rintro rfl; exact hlen rfl)]
    subst hno
    clear HY hlen
    go_enter Try.func12, Try.ntmps12
    go_wp2
    go_ret
    exact ⟨rfl, Below.refl _ _⟩
end
end Go.Proofs.Ytkodnjefdophmaa
