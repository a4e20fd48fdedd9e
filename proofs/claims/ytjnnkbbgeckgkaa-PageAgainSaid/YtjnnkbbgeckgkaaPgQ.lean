/- Layer 6's statements: the walk of PageAgain. -/
import Derived.Test.YtjnnkbbgeckgkaaPgK
import Derived.Test.YtjnnkbbgeckgkaaPgN
import Derived.Test.YtjnnkbbgeckgkaaUint
import Derived.Test.YtjnnkbbgeckgkaaFew
import Derived.Test.YtjnnkbbgeckgkaaLoadG
import Derived.Test.YtjnnkbbgeckgkaaOpenRecs
namespace Go.Proofs.Ytjnnkbbgeckgkaa
open Go.RowKit

/-! What records do to a page, one by one; and once more. -/
/-- The page behind the first k records, from place F on. -/
def run (l : List Rc) (F : Int) : Nat → Int × ByteArray
  | 0 => (0, noughts)
  | k + 1 => applyR (run l F k).1 (run l F k).2 (F + k) (l.getD k Rc.nil)
theorem applyR_cases (a : Int) (d : ByteArray) (x : Int) (r : Rc) : (applyR a d x r = (a, d)) ∨ (a < x ∧ (applyR a d x r).1 = x ∧ (PgOk a d → PgOk (applyR a d x r).1 (applyR a d x r).2)) := by
  by_cases h : Chg r ∧ a < x ∧ (putR a d r.off r.after x).2.2 = 0
  · refine .inr ⟨h.2.1, ?_⟩
    obtain ⟨h1, h2, h3, h4⟩ := putR_ok h.2.2
    have e : applyR a d x r = (x, putS d r.off.toNat r.after) := by
      unfold applyR
      rw [if_pos h, h4]
    rw [e]
    refine ⟨rfl, fun _ => ⟨h2, ?_⟩⟩
    obtain ⟨k1, k2, k3⟩ := h3
    rw [putS_size (by rw [h1.2]; omega)]
    exact h1.2
  · exact .inl (if_neg h)
theorem run_ok (l : List Rc) (F : Int) : ∀ k, PgOk (run l F k).1 (run l F k).2
  | 0 => ⟨⟨by show (0 : Int) ≤ 0; omega, by show (0 : Int) ≤ 2147483647; omega⟩, noughts_size⟩
  | k + 1 => by
    rcases applyR_cases (run l F k).1 (run l F k).2 (F + k) (l.getD k Rc.nil) with h | h
    · show PgOk (applyR _ _ _ _).1 (applyR _ _ _ _).2
      rw [h]
      exact run_ok l F k
    · exact h.2.2 (run_ok l F k)
/-- Behind a record a page has its place, or a greater one; or it is as it was ahead of it. -/
theorem run_from (l : List Rc) (F : Int) (i : Nat) : ∀ n, i ≤ n → F + i ≤ (run l F n).1 ∨ run l F n = run l F i
  | 0, h => .inr (by rw [show i = 0 by omega])
  | n + 1, h => by
    by_cases hi : i = n + 1
    · exact .inr (by rw [hi])
    · rcases applyR_cases (run l F n).1 (run l F n).2 (F + n) (l.getD n Rc.nil) with h1 | h1
      · have e : run l F (n + 1) = run l F n := h1
        rw [e]
        exact run_from l F i n (by omega)
      · refine .inl ?_
        show F + i ≤ (applyR _ _ _ _).1
        rw [h1.2.1]
        omega
/-- A record that was applied does nothing once more. -/
theorem run_again (l : List Rc) (F : Int) (n i : Nat) (h : i < n) : applyR (run l F n).1 (run l F n).2 (F + i) (l.getD i Rc.nil) = run l F n := by
  have old : F + i ≤ (run l F n).1 → applyR (run l F n).1 (run l F n).2 (F + i) (l.getD i Rc.nil) = run l F n := fun h1 => if_neg fun h2 => by
    have := h2.2.1; omega
  rcases run_from l F i n (by omega) with h1 | h1
  · exact old h1
  · rcases run_from l F (i + 1) n (by omega) with h2 | h2
    · exact old (by omega)
    · rw [h1]
      show run l F (i + 1) = run l F i
      rw [← h2, h1]

section
set_option maxRecDepth 100000
set_option maxHeartbeats 8000000 in
theorem pageAgain_long (v : Value) (l : List Rc) (x y : Int) (w : World) (hv : IsRecs w v l) (hl : 60 < l.length) :
    Calls Try.prog 6 #[v, .int .i64 x, .int .i64 y] w fun e w' => e = .returned (.bool true) ∧ Below w.heap.size w w' := by
  have AW := Lib.hid awake_any
  obtain ⟨a, cap, rfl, h1, h2, _⟩ := hv
  have hm : (60 : Int) < l.length := by omega
  clear h1 h2 hl
  go_enter Try.func6, Try.ntmps6
  go_wp2_with fail
  refine (AW.out _).mono ?_
  rintro e w1 ⟨rfl, hb1⟩
  go_wp2_with fail
  refine (AW.out _).mono ?_
  rintro e w2 ⟨rfl, hb2⟩
  have HB := Lib.hid (below2 hb1 hb2)
  clear hb1 hb2
  go_wp2
  go_ret
  exact ⟨rfl, HB.out⟩

set_option maxHeartbeats 32000000 in
theorem pageAgain_some (v : Value) (l : List Rc) (x y : Int) (w : World) (hv : IsRecs w v l) (hl : l.length ≤ 60) :
    Calls Try.prog 6 #[v, .int .i64 x, .int .i64 y] w fun e w' => e = .returned (.bool true) ∧ Below w.heap.size w w' := by
  have AW := Lib.hid awake_any
  have EM := Lib.hid empty_any
  have HV := Lib.hid hv
  obtain ⟨a, cap, rfl, h1, h2, _⟩ := hv
  have t1 : decide ((60 : Int) < l.length) = false := by simp; omega
  have HL := Lib.hid hl
  have hF : ∃ F : Nat, Hid (wrap64 (1 + wrap64 ((IntKind.u64.wrap x).tmod 1000)) = (F : Int) ∧ F ≤ 1001) := by
    have h3 := modN_eq x 1000 (by omega) (by omega)
    have h4 := modN_lt x 1000 (by omega)
    refine ⟨1 + modN x 1000, ?_, by omega⟩
    rw [h3]
    unfold wrap64
    omega
  obtain ⟨F, hF⟩ := hF
  clear h1 h2 hl
  go_enter Try.func6, Try.ntmps6
  go_wp2_with fail
  refine (AW.out _).mono ?_
  rintro e w1 ⟨rfl, hb1⟩
  have HB1 := Lib.hid hb1
  clear hb1
  go_upto_region 4 with fail
  rw [hF.out.1]
  go_wp2_with fail
  refine (EM.out _).mono ?_
  rintro e w2 ⟨rfl, hb⟩
  have N0 := Blk.new w2 23 #[.int .i64 0, .string ⟨#[]⟩]
  have P0 := N0.setRow #[.int .i64 (run l F 0).1, .string (run l F 0).2]
  have HBB := below2 HB1.out hb
  have HB3 := Lib.hid (below_setRow (HBB.alloc HBB.size (.cells #[.int .i64 0, .string ⟨#[]⟩] 23)) (g := w2.heap.size) HBB.size #[.int .i64 (run l F 0).1, .string (run l F 0).2])
  have hgp := HBB.size
  clear HBB HB1 hb EM
  go_upto_region 5 with (refine wpList_store_row rfl 23 _ _ rfl w2.heap.size _ rfl rfl 23 _ N0 (by kernel_rfl) (by simp) (by simp [Value.oneCell']) ?_)
  clear N0
  change Code.wp _ _ _ _ ((w2.alloc (.cells #[.int .i64 0, .string ⟨#[]⟩] 23)).setRow w2.heap.size #[.int .i64 (run l F 0).1, .string (run l F 0).2])
  generalize (w2.alloc _).setRow _ _ = w3 at *
  generalize w2.heap.size = gp at *
  have HGP := Lib.hid hgp
  clear hgp
  go_wp2_with fail
  go_loopw [28] (fun vk wr => ∃ k : Nat, vk = .int .i64 k ∧ k ≤ l.length ∧ Below w.heap.size w wr ∧ Blk wr gp 23 #[.int .i64 (run l F k).1, .string (run l F k).2]) (fun vk _ => l.length - (intOf vk).toNat)
  case atStart => exact ⟨0, rfl, Nat.zero_le _, HB3.out, P0⟩
  case round =>
    obtain ⟨k, rfl, hk, hB, hP⟩ := hrel
    have HB := Lib.hid hB
    clear hB HB3 P0
    by_cases hlt : k < l.length
    · obtain ⟨b, off, cap', hva, _, _, hbw, hel⟩ := HV.out.at_ (by omega)
      cases hva
      obtain ⟨ta, tc, pa, pc, hls0, hsz, hc⟩ := hel k hlt
      have HLS := Lib.hid (hls0.keep HB.out)
      have HSZ := Lib.hid hsz
      obtain ⟨c0, c1, c2, c3, c4, c5, c6, c7, c8, c9, c10⟩ := hc.keep HB.out
      clear hls0 hsz hel hc
      have hget : l.getD k Rc.nil = l[k] := by simp [List.getD, hlt]
      have HRUN : Hid (run l F (k + 1) = applyR (run l F k).1 (run l F k).2 ((F : Int) + k) l[k]) := by
        show applyR _ _ _ _ = _
        rw [hget]
      clear hget
      generalize l[k] = r at *
      have hn := Blk.new wr 46 (recCells .nil (.slice none 0 0) (.slice none 0 0))
      have N3 := hn.setRow (recCells r (.slice ta r.txns.length tc) (.slice pa r.pages.length pc))
      have hb3 : Below wr.heap.size wr ((wr.alloc (.cells (recCells .nil (.slice none 0 0) (.slice none 0 0)) 46)).setRow wr.heap.size (recCells r (.slice ta r.txns.length tc) (.slice pa r.pages.length pc))) := below_setRow ((Below.refl _ _).alloc (Nat.le_refl _) _) (Nat.le_refl _) _
      have HLS3 := Lib.hid (HLS.out.keep hb3)
      have HB3 := Lib.hid (below2 HB.out hb3)
      have P3 := hP.keep hb3 hP.lt
      clear hP
      go_upto_region 8 with (refine wpList_store_row rfl 46 _ _ rfl wr.heap.size _ rfl rfl 46 _ hn (by kernel_rfl) rfl (by simp [recCells, Value.oneCell']) ?_)
      clear hn hb3 c0 c1 c2 c3 c4 c5 c6 c7 c8 c9 c10 HLS HB hbw
      change Code.wp _ _ _ _ ((wr.alloc (.cells (recCells .nil (.slice none 0 0) (.slice none 0 0)) 46)).setRow wr.heap.size (recCells r (.slice ta r.txns.length tc) (.slice pa r.pages.length pc)))
      generalize (wr.alloc (.cells (recCells .nil (.slice none 0 0) (.slice none 0 0)) 46)).setRow wr.heap.size (recCells r (.slice ta r.txns.length tc) (.slice pa r.pages.length pc)) = w4 at *
      generalize wr.heap.size = g at *
      have IR : Hid (IsRec w4 (.agg (recCells r (.slice ta r.txns.length tc) (.slice pa r.pages.length pc))) r) := ⟨_, _, rfl, HLS3.out⟩
      by_cases hf : Fit r
      · have FEW := Lib.hid (few_yes IR.out hf)
        clear hf
        go_wp2_with (refine wpList_load_row rfl 46 _ rfl g rfl 46 _ (0, 0) _ N3 Try.underlying46 rfl (by kernel_rfl) ?_)
        refine FEW.out.mono ?_
        rintro e w5 ⟨rfl, hb⟩
        replace N3 := N3.keep hb N3.lt
        replace P3 := P3.keep hb P3.lt
        have HB5 := Lib.hid (below2 HB3.out hb)
        have IR5 := Lib.hid (IR.out.keep hb)
        clear hb HLS3 HB3 IR FEW
        have AP := Lib.hid (apply_any (run l F k).1 ((F : Int) + k) (run l F k).2 IR5.out (by rw [(run_ok l F k).2]; omega) HSZ.out.2)
        rw [← HRUN.out] at AP
        have hw : IntKind.i64.wrap ((F : Int) + k) = (F : Int) + k := by have := hF.out.2; have := HL.out; rw [IntKind.wrap_i64]; omega
        have p0 := P3.cellAt (i := 0) (by simp)
        have p1 := P3.cellAt (i := 1) (by simp)
        simp at p0 p1
        go_wp2_with (refine wpList_load_row rfl 46 _ rfl g rfl 46 _ (0, 0) _ N3 Try.underlying46 rfl (by kernel_rfl) ?_)
        refine AP.out.mono ?_
        rintro e w6 ⟨rfl, hb⟩
        have P6 := P3.keep hb P3.lt
        have HB6 := Lib.hid (below_setRow (g := gp) (below2 HB5.out hb) HGP.out #[.int .i64 (run l F (k + 1)).1, .string (run l F (k + 1)).2])
        clear hb N3 P3 HB5 IR5 AP p0 p1 hw HRUN
        have hm2 : (l.length : Int) ≤ 60 := by have := HL.out; omega
        go_wp2_with (refine wpList_store_row rfl 23 _ _ rfl gp _ rfl rfl 23 _ P6 (by kernel_rfl) rfl (by simp [Value.oneCell']) ?_)
        go_roundw
        case rel => exact ⟨k + 1, by go_num, by omega, HB6.out, P6.setRow _⟩
        case measure => simp [intOf]; omega
      · have FEW := Lib.hid (few_no IR.out HSZ.out hf)
        clear hf
        go_wp2_with (refine wpList_load_row rfl 46 _ rfl g rfl 46 _ (0, 0) _ N3 Try.underlying46 rfl (by kernel_rfl) ?_)
        refine FEW.out.mono ?_
        rintro e w5 ⟨rfl, hb⟩
        have HB5 := Lib.hid (below2 HB3.out hb)
        clear hb HLS3 HB3 IR FEW
        go_wp2
        go_ret
        exact ⟨rfl, HB5.out⟩
    · obtain rfl : k = l.length := by omega
      have hM : ∃ M : Nat, Hid (wrap64 ((IntKind.u64.wrap y).tmod ((l.length : Int) + 1)) = (M : Int) ∧ M ≤ l.length) := by
        have h3 := modN_eq y ((l.length : Int) + 1) (by omega) (by have := HL.out; omega)
        have h4 := modN_lt y ((l.length : Int) + 1) (by omega)
        exact ⟨modN y ((l.length : Int) + 1), h3, by omega⟩
      obtain ⟨M, hM⟩ := hM
      have p0 := hP.cellAt (i := 0) (by simp)
      have p1 := hP.cellAt (i := 1) (by simp)
      simp at p0 p1
      have N0 := Blk.new wr 23 #[.int .i64 0, .string ⟨#[]⟩]
      have Q0 := N0.setRow #[.int .i64 (run l F l.length).1, .string (run l F l.length).2]
      have hb0 : Below wr.heap.size wr ((wr.alloc (.cells #[.int .i64 0, .string ⟨#[]⟩] 23)).setRow wr.heap.size #[.int .i64 (run l F l.length).1, .string (run l F l.length).2]) := below_setRow ((Below.refl _ _).alloc (Nat.le_refl _) _) (Nat.le_refl _) _
      have P0 := hP.keep hb0 hP.lt
      have HB3 := Lib.hid (below2 HB.out hb0)
      have hgq := Lib.hid HB.out.size
      have hpq := hP.lt
      clear HB hb0 hP
      go_upto_region 13 with (refine wpList_store_row rfl 23 _ _ rfl wr.heap.size _ rfl rfl 23 _ N0 (by kernel_rfl) (by simp) (by simp [Value.oneCell']) ?_)
      clear N0 p0 p1
      change Code.wp _ _ _ _ ((wr.alloc (.cells #[.int .i64 0, .string ⟨#[]⟩] 23)).setRow wr.heap.size #[.int .i64 (run l F l.length).1, .string (run l F l.length).2])
      generalize (wr.alloc (.cells #[.int .i64 0, .string ⟨#[]⟩] 23)).setRow wr.heap.size #[.int .i64 (run l F l.length).1, .string (run l F l.length).2] = w4 at *
      generalize wr.heap.size = gq at *
      have hz : ((l.length : Int) + 1 == 0) = false := by simp; omega
      have hwl : IntKind.i64.wrap ((l.length : Int) + 1) = (l.length : Int) + 1 := by have := HL.out; rw [IntKind.wrap_i64]; omega
      have hwu : IntKind.u64.wrap ((l.length : Int) + 1) = (l.length : Int) + 1 := by have := HL.out; rw [IntKind.wrap_u64]; omega
      go_upto_region 14 with fail
      rw [hM.out.1]
      clear hz hwl hwu
      go_loopw [11] (fun vk wr' => ∃ k : Nat, vk = .int .i64 k ∧ k ≤ l.length ∧ Below w.heap.size w wr' ∧ Blk wr' gp 23 #[.int .i64 (run l F l.length).1, .string (run l F l.length).2] ∧ Blk wr' gq 23 #[.int .i64 (run l F l.length).1, .string (run l F l.length).2]) (fun vk _ => l.length - (intOf vk).toNat)
      case atStart => exact ⟨M, rfl, hM.out.2, HB3.out, P0, Q0⟩
      case round =>
        obtain ⟨k, rfl, hk, hB, hP, hQ⟩ := hrel
        have HB := Lib.hid hB
        clear hB HB3 P0 Q0
        by_cases hlt : k < l.length
        · obtain ⟨b, off, cap', hva, _, _, hbw, hel⟩ := HV.out.at_ (by omega)
          cases hva
          obtain ⟨ta, tc, pa, pc, hls0, hsz, hc⟩ := hel k hlt
          have HLS := Lib.hid (hls0.keep HB.out)
          have HSZ := Lib.hid hsz
          have HC := Lib.hid (hc.keep HB.out)
          have hget : l.getD k Rc.nil = l[k] := by simp [List.getD, hlt]
          have hag := run_again l F l.length k hlt
          rw [hget] at hag
          have HAG := Lib.hid hag
          clear hls0 hsz hel hc hget hag hbw
          generalize l[k] = r at *
          have HW : Hid (IntKind.i64.wrap ((F : Int) + k) = (F : Int) + k) := by show _ = _; have := hF.out.2; have := HL.out; rw [IntKind.wrap_i64]; omega
          have AP : Hid (∀ W, Below wr.drew.heap.size wr.drew W → Calls Try.prog 23 #[.agg #[.int .i64 (run l F l.length).1, .string (run l F l.length).2], .int .i64 ((F : Int) + k), .agg #[.int .i64 r.kind, .int .i64 r.txn, .int .i64 r.page, .int .i64 r.off, .int .i64 r.prev, .int .i64 r.next, .int .i64 r.beg, .string r.before, .string r.after, .slice ta r.txns.length tc, .slice pa r.pages.length pc]] W fun e w' => e = .returned (.agg #[.int .i64 (run l F l.length).1, .string (run l F l.length).2]) ∧ Below W.heap.size W w') := fun W hW => by
            have IR : IsRec W (.agg (recCells r (.slice ta r.txns.length tc) (.slice pa r.pages.length pc))) r := ⟨_, _, rfl, (HLS.out.keep (w' := wr.drew) (Below.refl _ _).drew).keep hW⟩
            have h := apply_any (run l F l.length).1 ((F : Int) + k) (run l F l.length).2 IR (by rw [(run_ok l F l.length).2]; omega) HSZ.out.2
            rw [HAG.out] at h
            exact h
          have XB : Hid (∀ W, Below wr.drew.heap.size wr.drew W → Blk W gq 23 #[.int .i64 (run l F l.length).1, .string (run l F l.length).2] ∧ RecAt W b (off + k * 11) r (.slice ta r.txns.length tc) (.slice pa r.pages.length pc) ∧ Blk W gp 23 #[.int .i64 (run l F l.length).1, .string (run l F l.length).2]) := fun W h =>
            ⟨hQ.drew.keep h hQ.lt, (HC.out.keep (w' := wr.drew) (Below.refl _ _).drew).keep h, hP.drew.keep h hP.lt⟩
          have I1 : Hid ((k : Int) < l.length) := by show _ < _; omega
          have I2 : Hid ((0 : Int) ≤ k) := by show _ ≤ _; omega
          clear hP hQ
          go_upto_region 16 with fail
          have HLT := Lib.hid hlt
          clear hlt
          refine' wp_region_conf 9 (.is _ :: .is _ :: .is _ :: .is _ :: .is _ :: .is _ :: .is _ :: .is _ :: .is _ :: []) (by kernel_rfl) (by kernel_rfl) (by kernel_rfl) (by kernel_rfl) rfl ?main
          case main =>
            apply obs_step
            · rfl
            · intro w9 hE9 hk9
              have Q9 := (XB.out w9 hE9).1
              clear hk9 hE9
              have c0 := Q9.cellAt (i := 0) (by simp)
              have c1 := Q9.cellAt (i := 1) (by simp)
              simp at c0 c1
              go_wp2
              refine post_eq ?_ (Below.refl _ _)
              simp only [Act.put, List.setIfInBounds_toArray, List.set_cons_zero, List.set_cons_succ]
              try rfl
            · simp only [Act.put, List.setIfInBounds_toArray, List.set_cons_zero, List.set_cons_succ]
              rfl
            apply obs_step
            · rfl
            · intro w9 hE9 hk9
              clear hk9 hE9
              go_wp2
              refine post_eq ?_ (Below.refl _ _)
              simp only [Act.put, List.setIfInBounds_toArray, List.set_cons_zero, List.set_cons_succ]
              try rfl
            · simp only [Act.put, List.setIfInBounds_toArray, List.set_cons_zero, List.set_cons_succ]
              rfl
            apply obs_step
            · rfl
            · intro w9 hE9 hk9
              clear hk9 hE9
              go_wp2
              refine post_eq ?_ (Below.refl _ _)
              simp only [Act.put, List.setIfInBounds_toArray, List.set_cons_zero, List.set_cons_succ]
              try rfl
            · simp only [Act.put, List.setIfInBounds_toArray, List.set_cons_zero, List.set_cons_succ]
              rfl
            apply obs_step
            · rfl
            · intro w9 hE9 hk9
              clear hk9 hE9
              have hw := HW.out
              go_wp2
              refine post_eq ?_ (Below.refl _ _)
              simp only [Act.put, List.setIfInBounds_toArray, List.set_cons_zero, List.set_cons_succ]
              try rfl
            · simp only [Act.put, List.setIfInBounds_toArray, List.set_cons_zero, List.set_cons_succ]
              rfl
            apply obs_step
            · rfl
            · intro w9 hE9 hk9
              clear hk9 hE9
              go_wp2
              refine post_eq ?_ (Below.refl _ _)
              simp only [Act.put, List.setIfInBounds_toArray, List.set_cons_zero, List.set_cons_succ]
              try rfl
            · simp only [Act.put, List.setIfInBounds_toArray, List.set_cons_zero, List.set_cons_succ]
              rfl
            apply obs_step
            · rfl
            · intro w9 hE9 hk9
              clear hk9 hE9
              go_wp2
              refine post_eq ?_ (Below.refl _ _)
              simp only [Act.put, List.setIfInBounds_toArray, List.set_cons_zero, List.set_cons_succ]
              try rfl
            · simp only [Act.put, List.setIfInBounds_toArray, List.set_cons_zero, List.set_cons_succ]
              rfl
            apply obs_step
            · rfl
            · intro w9 hE9 hk9
              clear hk9 hE9
              have i1 := I1.out
              have i2 := I2.out
              go_wp2
              refine post_eq ?_ (Below.refl _ _)
              simp only [Act.put, List.setIfInBounds_toArray, List.set_cons_zero, List.set_cons_succ]
              try rfl
            · simp only [Act.put, List.setIfInBounds_toArray, List.set_cons_zero, List.set_cons_succ]
              rfl
            apply obs_step
            · rfl
            · intro w9 hE9 hk9
              obtain ⟨c0, c1, c2, c3, c4, c5, c6, c7, c8, c9, c10⟩ := (XB.out w9 hE9).2.1
              clear hk9 hE9
              go_wp2
              refine post_eq ?_ (Below.refl _ _)
              simp only [Act.put, List.setIfInBounds_toArray, List.set_cons_zero, List.set_cons_succ]
              try rfl
            · simp only [Act.put, List.setIfInBounds_toArray, List.set_cons_zero, List.set_cons_succ]
              rfl
            apply obs_step
            · rfl
            · intro w9 hE9 hk9
              have AP9 := AP.out w9 hE9
              clear hk9 hE9
              go_wp2_with fail
              refine (AP9.mono ?_)
              rintro e w10 ⟨rfl, hb10⟩
              go_wp2
              refine post_eq ?_ hb10
              simp only [Act.put, List.setIfInBounds_toArray, List.set_cons_zero, List.set_cons_succ]
              try rfl
            · simp only [Act.put, List.setIfInBounds_toArray, List.set_cons_zero, List.set_cons_succ]
              rfl
            refine obs_end fun w9 hE9 _ => ?_
            have hB9 := HB.out.drew.trans (hE9.mono HB.out.size)
            obtain ⟨Q9, _, P9⟩ := XB.out w9 hE9
            have Q10 := Q9.setRow #[.int .i64 (run l F l.length).1, .string (run l F l.length).2]
            have P10 := P9.farRow (k := gq) (by omega) #[.int .i64 (run l F l.length).1, .string (run l F l.length).2]
            have HB10 := Lib.hid (below_setRow (g := gq) hB9 hgq.out #[.int .i64 (run l F l.length).1, .string (run l F l.length).2])
            have hlt := HLT.out
            have hm2 : (l.length : Int) ≤ 60 := by have := HL.out; omega
            clear hB9 hE9 P9 XB HC HLS HSZ AP HB HLT I1 I2 HW HAG
            go_wp2_with (refine wpList_store_row rfl 23 _ _ rfl gq _ rfl rfl 23 _ Q9 (by kernel_rfl) rfl (by simp [Value.oneCell']) ?_)
            go_roundw
            case rel => exact ⟨k + 1, by go_num, by omega, HB10.out, P10, Q10⟩
            case measure => simp [intOf]; omega
        · obtain rfl : k = l.length := by omega
          have p0 := hP.cellAt (i := 0) (by simp)
          have p1 := hP.cellAt (i := 1) (by simp)
          have q0 := hQ.cellAt (i := 0) (by simp)
          have q1 := hQ.cellAt (i := 1) (by simp)
          simp at p0 p1 q0 q1
          clear hP hQ
          go_wp2_with (refine wp_page_eql _ _ _ rfl rfl _ _ _ _ rfl rfl ?_)
          go_ret
          refine ⟨?_, HB.out⟩
          first | rfl | simp
end
theorem walkPageAgain (v : Value) (l : List Rc) (x y : Int) (w : World) (hv : IsRecs w v l) (_ : (Lit.int .i64 x).wf = true) (_ : (Lit.int .i64 y).wf = true) :
    Calls Try.prog 6 #[v, .int .i64 x, .int .i64 y] w fun e w' => e = .returned (.bool true) ∧ Below w.heap.size w w' := by
  by_cases hl : l.length ≤ 60
  · exact pageAgain_some v l x y w hv hl
  · exact pageAgain_long v l x y w hv (by omega)
end Go.Proofs.Ytjnnkbbgeckgkaa
