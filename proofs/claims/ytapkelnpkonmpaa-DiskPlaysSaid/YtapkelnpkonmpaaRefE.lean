/- The document's own disk: a sector is read, is lost; a new disk. -/
import Derived.Test.YtapkelnpkonmpaaRefD
namespace Go.Proofs.Ytapkelnpkonmpaa
open Go.RowKit

theorem own_slice {w : World} {base size n : Nat} {e : TypeId} {v : Value} {xs : List Value} (h : w.ownsRow base e size v n xs) : ∃ ra rc, v = .slice ra n rc := by
  rcases own_any h with ⟨rfl, rfl, _⟩ | ⟨q, c, rfl, _⟩
  · exact ⟨none, 0, rfl⟩
  · exact ⟨_, _, rfl⟩
section
variable {w : World} {F : Foot} {g : Nat} {d : Dk}
/-- What is read behind the first k writes. -/
theorem at_steps (d : Dk) (i : Int) : ∃ rd : Nat → ByteArray, rd 0 = d.safe.getD i.toNat zero128 ∧ (∀ k (h : k < d.waits.length), rd (k + 1) = if (d.waits[k].1 : Int) = i then d.waits[k].2 else rd k) ∧ rd d.waits.length = d.at_ i := by
  refine ⟨fun k => (lastOf (d.waits.take k) i).getD (d.safe.getD i.toNat zero128), rfl, fun k h => ?_, by simp only [List.take_length]; rfl⟩
  show (lastOf (d.waits.take (k + 1)) i).getD _ = _
  rw [List.take_add_one, List.getElem?_eq_getElem h]
  show (lastOf (d.waits.take k ++ [d.waits[k]]) i).getD _ = _
  rw [lastOf_snoc]
  split <;> rfl
/-- What waits still behind the first k writes. -/
theorem rest_steps (d : Dk) (i : Int) : ∃ fl : Nat → List (Nat × ByteArray), fl 0 = [] ∧ (∀ k (h : k < d.waits.length), fl (k + 1) = if (d.waits[k].1 : Int) = i then fl k else fl k ++ [(d.waits[k].1, d.waits[k].2)]) ∧ (∀ k, (fl k).length ≤ d.waits.length) ∧
    fl d.waits.length = d.waits.filter fun x => !((x.1 : Int) == i) := by
  refine ⟨fun k => (d.waits.take k).filter fun x => !((x.1 : Int) == i), rfl, fun k h => ?_, fun k => ?_, by simp only [List.take_length]⟩
  · show (d.waits.take (k + 1)).filter _ = _
    rw [List.take_add_one, List.getElem?_eq_getElem h]
    show (d.waits.take k ++ [d.waits[k]]).filter _ = _
    rw [List.filter_append]
    by_cases e : (d.waits[k].1 : Int) = i
    · rw [if_pos e, List.filter_cons_of_neg (by simp [e]), List.filter_nil, List.append_nil]
    · rw [if_neg e, List.filter_cons_of_pos (by simp [e]), List.filter_nil]
  · exact Nat.le_trans (List.length_filter_le ..) (by rw [List.length_take]; omega)

set_option maxRecDepth 100000 in
set_option maxHeartbeats 4000000 in
theorem refRead_ok (ho : d.Ok) (h : IsRef w F g d) (k : Nat) (hi : d.has k) (hgone : d.gone = false) (s : ByteArray) (hs : d.at_ k = s) :
    Calls Try.prog 28 #[.pointer (some ⟨g, 0, none⟩), .int .i64 k] w fun e w' => e = .returned (.tuple #[.string s, .int .i64 0]) ∧ w = w' := by
  obtain ⟨rd, hr0, hr1, hr2⟩ := at_steps d k
  rw [hs] at hr2
  obtain ⟨vs, vq, r⟩ := h
  obtain ⟨b, cap, rfl, hcap⟩ := own_head ho r.safe
  obtain ⟨qa, capq, rfl, hqm⟩ : ∃ qa capq, vq = .slice qa d.waits.length capq ∧ d.waits.length ≤ 9223372036854775807 := by
    rcases own_any r.wait with ⟨rfl, h0, _⟩ | ⟨q, capq, rfl, hq, hqm⟩
    · exact ⟨none, 0, by rw [h0], by omega⟩
    · exact ⟨_, capq, rfl, by unfold maxLen at hqm; omega⟩
  have hn := ho.le
  obtain ⟨c0, c1, c2, _⟩ := r.cells
  rw [hgone] at c2
  have hk : k < d.safe.length := by have := hi.2; omega
  have cell := r.safe.cellAt k (by omega)
  have hx : (strsV d.safe)[k]? = some (.string (rd 0)) := by
    rw [hr0]
    unfold strsV
    rw [List.getElem?_map, List.getElem?_eq_getElem hk]
    simp [List.getD_eq_getElem?_getD, List.getElem?_eq_getElem hk]
  rw [hx] at cell
  have hk0 : (0 : Int) ≤ (k : Int) := Int.natCast_nonneg _
  have hk1 : (k : Int) < (d.safe.length : Int) := by omega
  have hk2 : ¬ d.safe.length ≤ k := by omega
  have HW := Lib.hid r.wait
  have HR1 := Lib.hid hr1
  have HR2 := Lib.hid hr2
  clear hx hr0 hr1 hr2 r ho hs hi hk
  go_enter Try.func28, Try.ntmps28
  go_wp2
  go_loopw [6, 7] (fun vx vk wr => ∃ j : Nat, j ≤ d.waits.length ∧ vk = .int .i64 j ∧ vx = .string (rd j) ∧ w = wr) (fun _ vk _ => d.waits.length - (intOf vk).toNat)
  case atStart => exact ⟨0, Nat.zero_le _, rfl, rfl, rfl⟩
  case round =>
    obtain ⟨j, hj, rfl, rfl, rfl⟩ := hrel
    by_cases hlt : j < d.waits.length
    · have hkl := hlt
      rcases own_any HW.out with ⟨_, h0, _⟩ | ⟨q, capq', hqe, _, _⟩
      · exact absurd h0 (by omega)
      simp only [Value.slice.injEq] at hqe
      obtain ⟨rfl, _, rfl⟩ := hqe
      obtain ⟨e0, e1⟩ := waitsV_at d.waits j hkl
      have q0 := (HW.out.cellAt (j * 2) (by omega)).trans e0
      have q1 := (HW.out.cellAt (j * 2 + 1) (by omega)).trans e1
      have hstep := HR1.out j hkl
      generalize d.waits[j].1 = x at *
      generalize d.waits[j].2 = s' at *
      by_cases hxk : (x : Int) = (k : Int)
      · rw [if_pos hxk] at hstep
        have hq : ((x : Int) == (k : Int)) = true := by simpa using hxk
        have hxn : x = k := by omega
        have HS := Lib.hid hstep
        clear hstep e0 e1
        go_wp2
        go_roundw
        case rel => exact ⟨j + 1, by omega, by go_num, by rw [HS.out], by first | rfl | trivial⟩
        case measure => simp [intOf]; omega
      · rw [if_neg hxk] at hstep
        have hq : ((x : Int) == (k : Int)) = false := by simpa using hxk
        have hxn : ¬ x = k := by omega
        have HS := Lib.hid hstep
        clear hstep e0 e1
        go_wp2
        go_roundw
        case rel => exact ⟨j + 1, by omega, by go_num, by rw [HS.out], by first | rfl | trivial⟩
        case measure => simp [intOf]; omega
    · obtain rfl : j = d.waits.length := by omega
      rw [HR2.out]
      go_wp2
      go_ret2
      exact ⟨rfl, rfl⟩
set_option maxRecDepth 100000 in
set_option maxHeartbeats 1000000 in
theorem refRead_no (ho : d.Ok) (h : IsRef w F g d) (i : Int) (hi : d.reachE i ≠ 0) :
    Calls Try.prog 28 #[.pointer (some ⟨g, 0, none⟩), .int .i64 i] w fun e w' => e = .returned (.tuple #[.string ⟨#[]⟩, .int .i64 (d.reachE i)]) ∧ w = w' := by
  obtain ⟨vs, vq, r⟩ := h
  obtain ⟨b, cap, rfl, hcap⟩ := own_head ho r.safe
  obtain ⟨c0, c1, c2, _⟩ := r.cells
  have hn := ho.le
  unfold Dk.reachE at hi ⊢
  cases hg : d.gone with
  | true =>
    rw [hg] at c2
    rw [if_pos rfl]
    clear hi hg ho r
    go_enter Try.func28, Try.ntmps28
    go_wp2
    go_ret2
    exact ⟨rfl, rfl⟩
  | false =>
    rw [hg] at hi c2
    by_cases hh : d.has i
    · rw [if_neg (by simp), if_pos hh] at hi; exact absurd rfl hi
    rw [if_neg (by simp), if_neg hh]
    unfold Dk.has at hh
    by_cases h0 : i < 0
    · have hk0 : decide (i < 0) = true := by simpa using h0
      clear hi hg hh h0 ho r
      go_enter Try.func28, Try.ntmps28
      go_wp2
      go_ret2
      exact ⟨rfl, rfl⟩
    · have hk0 : decide (i < 0) = false := by simpa using h0
      have hk1 : decide ((d.safe.length : Int) ≤ i) = true := by simp; omega
      clear hi hg hh h0 ho r
      go_enter Try.func28, Try.ntmps28
      go_wp2
      go_ret2
      exact ⟨rfl, rfl⟩
theorem refRead_any (ho : d.Ok) (h : IsRef w F g d) (i : Int) :
    Calls Try.prog 28 #[.pointer (some ⟨g, 0, none⟩), .int .i64 i] w fun e w' => e = .returned (.tuple #[.string (d.read i), .int .i64 (d.reachE i)]) ∧ w = w' := by
  unfold Dk.read
  by_cases hr : d.reachE i = 0
  · rw [if_pos hr, hr]
    unfold Dk.reachE at hr
    split at hr
    · cases hr
    · rename_i hg
      split at hr
      · rename_i hi
        obtain ⟨k, rfl⟩ := Int.eq_ofNat_of_zero_le hi.1
        exact refRead_ok ho h k hi (by simpa using hg) _ rfl
      · cases hr
  · rw [if_neg hr]
    exact refRead_no ho h i hr

set_option maxRecDepth 100000 in
set_option maxHeartbeats 8000000 in
theorem refLose_ok (ho : d.Ok) (h : IsRef w F g d) (k : Nat) (hi : d.has k) (hgone : d.gone = false) (hl : d.waits.length < 16777216) :
    Calls Try.prog 22 #[.pointer (some ⟨g, 0, none⟩), .int .i64 k] w fun e w' => e = .returned (.int .i64 0) ∧ ∃ F', IsRef w' F' g { d with safe := d.safe.set k zero128, waits := d.waits.filter fun x => !((x.1 : Int) == k) } ∧ Step F F' w w' := by
  obtain ⟨i0, hi0, hz0, hz1, hz2⟩ := info_parts info_refwrite
  obtain ⟨fl, hr0, hr1, hrl, hr2⟩ := rest_steps d k
  rw [← hr2]
  obtain ⟨vs, vq, r⟩ := h
  obtain ⟨b, cap, rfl, hcap⟩ := own_head ho r.safe
  obtain ⟨qa, capq, rfl, hqm⟩ : ∃ qa capq, vq = .slice qa d.waits.length capq ∧ d.waits.length ≤ 9223372036854775807 := by
    rcases own_any r.wait with ⟨rfl, h0, _⟩ | ⟨q, capq, rfl, hq, hqm⟩
    · exact ⟨none, 0, by rw [h0], by omega⟩
    · exact ⟨_, capq, rfl, by unfold maxLen at hqm; omega⟩
  have hn := ho.le
  obtain ⟨c0, c1, c2, _⟩ := r.cells
  rw [hgone] at c2
  have hk : k < d.safe.length := by have := hi.2; omega
  have hk0 : (0 : Int) ≤ (k : Int) := Int.natCast_nonneg _
  have hk1 : (k : Int) < (d.safe.length : Int) := by omega
  have hk2 : ¬ d.safe.length ≤ k := by omega
  have hrest : Hid (w.ownsRow w.heap.size 71 2 (.slice none 0 0) (fl 0).length (waitsV (fl 0))) := by rw [hr0]; exact World.ownsRow_nil _ _ _ _
  have HR := Lib.hid r
  have HR1 := Lib.hid hr1
  have HRL := Lib.hid hrl
  clear hr0 hr1 hr2 hrl r ho hi hgone
  go_enter Try.func22, Try.ntmps22
  go_wp2
  go_loopw [5, 6] (fun vx vk wr => ∃ j : Nat, j ≤ d.waits.length ∧ vk = .int .i64 j ∧ wr.ownsRow w.heap.size 71 2 vx (fl j).length (waitsV (fl j)) ∧ Below w.heap.size w wr) (fun _ vk _ => d.waits.length - (intOf vk).toNat)
  case atStart => exact ⟨0, Nat.zero_le _, rfl, hrest.out, Below.refl _ _⟩
  case round =>
    obtain ⟨j, hj, rfl, hrow, hb⟩ := hrel
    have rr := HR.out.below hb
    clear c0 c1 c2 hrest
    obtain ⟨c0, c1, c2, _⟩ := rr.cells
    by_cases hlt : j < d.waits.length
    · have hkl := hlt
      rcases own_any rr.wait with ⟨_, h0, _⟩ | ⟨q, capq', hqe, _, _⟩
      · exact absurd h0 (by omega)
      simp only [Value.slice.injEq] at hqe
      obtain ⟨rfl, _, rfl⟩ := hqe
      obtain ⟨e0, e1⟩ := waitsV_at d.waits j hkl
      have q0 := (rr.wait.cellAt (j * 2) (by omega)).trans e0
      have q1 := (rr.wait.cellAt (j * 2 + 1) (by omega)).trans e1
      have hstep := HR1.out j hkl
      generalize d.waits[j].1 = x at *
      generalize d.waits[j].2 = s' at *
      by_cases hxk : (x : Int) = (k : Int)
      · rw [if_pos hxk] at hstep
        have hq : ((x : Int) != (k : Int)) = false := by simpa using hxk
        have hxn : x = k := by omega
        rw [← hstep] at hrow
        have HS := Lib.hid hrow
        clear hstep e0 e1 hrow rr
        go_wp2
        go_roundw
        case rel => exact ⟨j + 1, by omega, by go_num, HS.out, hb⟩
        case measure => simp [intOf]; omega
      · rw [if_neg hxk] at hstep
        have hq : ((x : Int) != (k : Int)) = true := by simpa using hxk
        have hxn : ¬ x = k := by omega
        have hlen := HRL.out j
        have HS := Lib.hid hstep
        have hrow2 := hrow.alloc (.cells #[.int .i64 (x : Int), .string s'] 71)
        have hsz := hb.size
        have HBB := Lib.hid hb
        clear hstep e0 e1 rr hrow hb
        go_wp2_with (at_builtin; refine wpList_append_own_at _ rfl (.tmp 41) (.tmp 49) 41 rfl w.heap.size 71 i0 (.agg #[.int .i64 0, .string ⟨#[]⟩]) 2 24 Try.underlying41 hi0 hz0 hz1 hz2 rfl (by decide) _ _ _ rfl hrow2 ⟨wr.heap.size, 0, none⟩ 1 1 [.int .i64 x, .string s'] rfl rfl (World.news_of_block (cs := #[.int .i64 x, .string s']) (t := 71) (fr := (0, 0)) (heap_alloc_new wr _)) (by simp [Value.oneCell']) (by simp only [maxLen]; omega) (by omega) (by simp; omega) ?_)
        intro v' w3 hown3 hgrow _ hat
        have HB : Hid (Below w.heap.size w w3) := (HBB.out.alloc HBB.out.size _).grown hgrow (by simp; omega) (fun b hb => (hrow2.lt b hb).1)
        have HO : Hid (w3.ownsRow w.heap.size 71 2 v' (fl (j + 1)).length (waitsV (fl (j + 1)))) := by
          show World.ownsRow _ _ _ _ _ _ _
          rw [HS.out, List.length_append, waitsV_snoc]; exact hown3
        clear hown3 hgrow hat hrow2
        go_wp2
        go_roundw
        case rel => exact ⟨j + 1, by omega, by go_num, HO.out, HB.out⟩
        case measure => simp [intOf]; omega
    · obtain rfl : j = d.waits.length := by omega
      have f1 := rr.frozen 1
      obtain ⟨r3, s3⟩ := HR.out.rewait (fl d.waits.length) (own_base hrow) (.ofBelow hb) (fun b hlt _ => hb.block b hlt) (fun b hb2 => .inr (hrow.lt b hb2).1)
      obtain ⟨ra, rc, rfl⟩ := own_slice hrow
      have R3 := Lib.hid r3
      have S3 := Lib.hid s3
      clear r3 s3 rr hrow hb
      go_wp2_with fail
      generalize wr.setCell ⟨g, 1, none⟩ (.slice ra (fl d.waits.length).length rc) = W at *
      clear c0 c1 c2 f1
      refine' wp_region_conf 7 [.is _, .is _, .is _, .is _, .is _, .is _, .is _] (by kernel_rfl) (by kernel_rfl) (by kernel_rfl) (by kernel_rfl) rfl ?main
      case main =>
        iterate 7
          refine obs_is (fun w2 hE2 _ => ?_) ?_
          · have r2 := R3.out.drew.below hE2
            obtain ⟨d0, _⟩ := r2.cells
            clear r2
            go_wp2_with (go_at_call 31; refine (refZero_any _).mono ?_; rintro e w3 ⟨rfl, hb3⟩)
            first | exact post_is hb3 | exact post_is (Below.refl _ _)
          simp only [Act.put, List.setIfInBounds_toArray, List.set_cons_zero, List.set_cons_succ]
        refine obs_end fun w3 hE3 _ => ?_
        have r4 := R3.out.drew.below hE3
        have e1 := r4.safe.cellAt k (by show _ < d.safe.length * 1; omega)
        rw [List.getElem?_eq_getElem (by rw [strsV_len]; exact hk)] at e1
        have f1 := r4.safe.frozenAt k
        obtain ⟨r5, s5⟩ := r4.stored rfl k zero128
        have hf : IsRef (w3.setCell ⟨b, k, none⟩ (.string zero128)) _ g { d with safe := d.safe.set k zero128, waits := fl d.waits.length } := ⟨_, _, r5⟩
        have R5 := Lib.hid hf
        have S5 := Lib.hid ((S3.out.drew.more hE3).trans s5)
        clear r4 r5 s5 hf
        change wpList _ _ _ _ _ _
        go_wp2
        go_ret
        exact ⟨rfl, _, R5.out, S5.out⟩
set_option maxRecDepth 100000 in
set_option maxHeartbeats 1000000 in
theorem refLose_no (ho : d.Ok) (h : IsRef w F g d) (i : Int) (hi : d.reachE i ≠ 0) :
    Calls Try.prog 22 #[.pointer (some ⟨g, 0, none⟩), .int .i64 i] w fun e w' => e = .returned (.int .i64 (d.reachE i)) ∧ w = w' := by
  obtain ⟨vs, vq, r⟩ := h
  obtain ⟨b, cap, rfl, hcap⟩ := own_head ho r.safe
  obtain ⟨c0, c1, c2, _⟩ := r.cells
  have hn := ho.le
  unfold Dk.reachE at hi ⊢
  cases hg : d.gone with
  | true =>
    rw [hg] at c2
    rw [if_pos rfl]
    clear hi hg ho r
    go_enter Try.func22, Try.ntmps22
    go_wp2
    go_ret
    exact ⟨rfl, rfl⟩
  | false =>
    rw [hg] at hi c2
    by_cases hh : d.has i
    · rw [if_neg (by simp), if_pos hh] at hi; exact absurd rfl hi
    rw [if_neg (by simp), if_neg hh]
    unfold Dk.has at hh
    by_cases h0 : i < 0
    · have hk0 : decide (i < 0) = true := by simpa using h0
      clear hi hg hh h0 ho r
      go_enter Try.func22, Try.ntmps22
      go_wp2
      go_ret
      exact ⟨rfl, rfl⟩
    · have hk0 : decide (i < 0) = false := by simpa using h0
      have hk1 : decide ((d.safe.length : Int) ≤ i) = true := by simp; omega
      clear hi hg hh h0 ho r
      go_enter Try.func22, Try.ntmps22
      go_wp2
      go_ret
      exact ⟨rfl, rfl⟩
theorem refLose_any (ho : d.Ok) (h : IsRef w F g d) (i : Int) (hl : d.waits.length < 16777216) :
    Calls Try.prog 22 #[.pointer (some ⟨g, 0, none⟩), .int .i64 i] w fun e w' => e = .returned (.int .i64 (d.reachE i)) ∧ ∃ F', IsRef w' F' g (d.lose i) ∧ Step F F' w w' := by
  unfold Dk.lose
  by_cases hr : d.reachE i = 0
  · rw [if_pos hr, hr]
    unfold Dk.reachE at hr
    split at hr
    · cases hr
    · rename_i hg
      split at hr
      · rename_i hi
        obtain ⟨k, rfl⟩ := Int.eq_ofNat_of_zero_le hi.1
        exact refLose_ok ho h k hi (by simpa using hg) hl
      · cases hr
  · rw [if_neg hr]
    exact (refLose_no ho h i hr).mono fun e w' ⟨k1, k2⟩ => ⟨k1, F, k2 ▸ h, k2 ▸ Step.refl F w⟩
end
end Go.Proofs.Ytapkelnpkonmpaa
