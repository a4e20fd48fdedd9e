/- Layer 4's statements: RecordReads, walked. -/
import Derived.Test.YtopihafmajadfaaRefAll
import Derived.Test.YtopihafmajadfaaRecM2
namespace Go.Proofs.Ytopihafmajadfaa
open Go.RowKit

set_option maxRecDepth 100000 in
set_option maxHeartbeats 8000000 in
theorem recordReads_long (s : ByteArray) (at_ : Int) (w : World) (hl : (1000 : Int) < s.size) :
    Calls Try.prog 3 #[.string s, .int .i64 at_] w fun e w' => e = .returned (.bool true) ∧ Below w.heap.size w w' := by
  go_enter Try.func3, Try.ntmps3
  go_wp2_with fail
  refine (awake_any _).mono ?_
  rintro e w1 ⟨rfl, hb1⟩
  go_wp2_with fail
  refine (awake_any _).mono ?_
  rintro e w2 ⟨rfl, hb2⟩
  have HB := Lib.hid (below2 hb1 hb2)
  clear hb1 hb2
  go_wp2
  go_ret
  exact ⟨rfl, HB.out⟩

set_option maxRecDepth 100000 in
set_option maxHeartbeats 8000000 in
theorem recordReads_some (s : ByteArray) (at_ : Int) (w : World) (hl : (s.size : Int) ≤ 1000) (r : Rc) (n er : Int) (hr : readR s at_ = (r, n, er)) (o : Option (List Ent)) (ho : allS s = o) (g : Int) (hg : allCode o = g) (ok : Bool) (hok : o.isSome = ok) (hgo : (g == 0) = ok) (hg3 : ok = false → g = 3) :
    Calls Try.prog 3 #[.string s, .int .i64 at_] w fun e w' => e = .returned (.bool true) ∧ Below w.heap.size w w' := by
  have H1 := Lib.hid (fun W => rdRead_any s at_ W (by unfold maxLen; omega))
  have H2 := Lib.hid (fun W => refRead_any s at_ W (by unfold maxLen; omega))
  have H3 := Lib.hid (fun W => all_any s W (by omega))
  have H4 := Lib.hid (fun W => refAll_any s W (by omega))
  rw [hr] at H1 H2
  unfold AllOut at H3
  unfold AllOutB at H4
  rw [ho] at H3 H4
  rw [hg] at H3
  rw [hok] at H4
  have HGO := Lib.hid hgo
  have HG3 := Lib.hid hg3
  clear hr ho hg hok hgo hg3
  go_enter Try.func3, Try.ntmps3
  go_wp2_with fail
  refine (awake_any _).mono ?_
  rintro e w1 ⟨rfl, hb1⟩
  have HB1 := Lib.hid hb1
  clear hb1
  go_wp2_with fail
  refine (H1.out _).mono ?_
  rintro e w2 ⟨v2, rfl, ⟨vt, vp, hv2, hl2⟩, hb2⟩
  subst hv2
  have one := hl2.one
  have hn := Blk.new w2 26 (recCells .nil (.slice none 0 0) (.slice none 0 0))
  have N2 := hn.setRow (recCells r vt vp)
  have hb3 : Below w2.heap.size w2 ((w2.alloc (.cells (recCells .nil (.slice none 0 0) (.slice none 0 0)) 26)).setRow w2.heap.size (recCells r vt vp)) := below_setRow ((Below.refl _ _).alloc (Nat.le_refl _) _) (Nat.le_refl _) _
  have HL2 := Lib.hid (hl2.keep hb3)
  have HB3 := Lib.hid (below2 (below2 HB1.out hb2) hb3)
  clear hl2 hb2 HB1 hb3
  go_upto_region 4 with (refine wpList_store_row rfl 26 _ _ rfl w2.heap.size _ rfl rfl 26 _ hn (by kernel_rfl) rfl one ?_)
  clear hn one
  change Code.wp _ _ _ _ ((w2.alloc (.cells (recCells .nil (.slice none 0 0) (.slice none 0 0)) 26)).setRow w2.heap.size (recCells r vt vp))
  generalize (w2.alloc (.cells (recCells .nil (.slice none 0 0) (.slice none 0 0)) 26)).setRow w2.heap.size (recCells r vt vp) = w3 at *
  generalize w2.heap.size = g1 at *
  go_wp2_with fail
  refine (H2.out _).mono ?_
  intro e w4 h4
  obtain ⟨v4, rfl, ⟨ut, up, hv4, hl4⟩, hb4⟩ := h4.plain
  subst hv4
  have one := hl4.one
  have hn := Blk.new w4 26 (recCells .nil (.slice none 0 0) (.slice none 0 0))
  have N4 := hn.setRow (recCells r ut up)
  have hb5 : Below w4.heap.size w4 ((w4.alloc (.cells (recCells .nil (.slice none 0 0) (.slice none 0 0)) 26)).setRow w4.heap.size (recCells r ut up)) := below_setRow ((Below.refl _ _).alloc (Nat.le_refl _) _) (Nat.le_refl _) _
  have HL4 := Lib.hid (hl4.keep hb5)
  have HL2' := Lib.hid ((HL2.out.keep hb4).keep hb5)
  have N2' := (N2.keep hb4 N2.lt).keep hb5 (Nat.lt_of_lt_of_le N2.lt hb4.size)
  have HB5 := Lib.hid (below2 (below2 HB3.out hb4) hb5)
  clear hl4 hb4 HB3 HL2 hb5 N2 h4
  go_upto_region 5 with (refine wpList_store_row rfl 26 _ _ rfl w4.heap.size _ rfl rfl 26 _ hn (by kernel_rfl) rfl one ?_)
  clear hn one
  change Code.wp _ _ _ _ ((w4.alloc (.cells (recCells .nil (.slice none 0 0) (.slice none 0 0)) 26)).setRow w4.heap.size (recCells r ut up))
  generalize (w4.alloc (.cells (recCells .nil (.slice none 0 0) (.slice none 0 0)) 26)).setRow w4.heap.size (recCells r ut up) = w5 at *
  generalize w4.heap.size = g2 at *
  go_wp2_with fail
  refine (H3.out _).mono ?_
  rintro e w6 ⟨v6, q6, rfl, hq6, ho6, hb6⟩
  go_wp2_with fail
  refine (H4.out _).mono ?_
  rintro e w7 ⟨v7, q7, rfl, hq7, ho7, hb7⟩
  have hb67 := below2 hb6 hb7
  have R1 := Lib.hid ((HL2'.out.keep hb67))
  have R2 := Lib.hid ((HL4.out.keep hb67))
  have M2 := N2'.keep hb67 N2'.lt
  have M4 := N4.keep hb67 N4.lt
  have E1 := Lib.hid (ho6.isEnts.keep hb7)
  have E2 := Lib.hid ho7.isEnts
  rw [hq6] at E1
  rw [hq7] at E2
  have HB7 := Lib.hid (below2 HB5.out hb67)
  clear hb67 hb6 hb7 hq6 hq7 ho6 ho7 HL2' HL4 N2' N4 HB5 H1 H2 H3 H4
  go_upto_region 7 with (fail)
  go_wp2_with (first
    | (refine wpList_load_row rfl 26 _ rfl g1 rfl 26 _ (0, 0) _ M2 Try.underlying26 rfl (by kernel_rfl) ?_)
    | (refine wpList_load_row rfl 26 _ rfl g2 rfl 26 _ (0, 0) _ M4 Try.underlying26 rfl (by kernel_rfl) ?_))
  refine (refSame_any ⟨_, _, rfl, R1.out⟩ ⟨_, _, rfl, R2.out⟩ true (by simp)).mono ?_
  rintro e w8 ⟨rfl, hb8⟩
  have HB8 := Lib.hid (below2 HB7.out hb8)
  have F1 := Lib.hid (E1.out.keep hb8)
  have F2 := Lib.hid (E2.out.keep hb8)
  clear hb8 HB7 E1 E2 R1 R2 M2 M4
  go_wp2_with fail
  refine (refSameAll_any F1.out F2.out true (by simp)).mono ?_
  rintro e w9 ⟨rfl, hb9⟩
  have HB9 := Lib.hid (below2 HB8.out hb9)
  clear hb9 HB8 F1 F2
  have k1 := HGO.out
  cases ok with
  | true =>
    have k2 : g = 0 := by simpa using k1
    subst k2
    clear k1 HG3
    go_wp2
    go_ret
    exact ⟨rfl, HB9.out⟩
  | false =>
    have k2 := HG3.out rfl
    subst k2
    clear k1 HG3
    go_wp2
    go_ret
    exact ⟨rfl, HB9.out⟩

theorem walkRecordReads (s : ByteArray) (at_ : Int) (w : World) (_ : s.size ≤ maxLen) (_ : (Lit.int .i64 at_).wf = true) :
    Calls Try.prog 3 #[.string s, .int .i64 at_] w fun e w' => e = .returned (.bool true) ∧ Below w.heap.size w w' := by
  by_cases hl : (1000 : Int) < s.size
  · exact recordReads_long s at_ w hl
  · refine recordReads_some s at_ w (by omega) _ _ _ rfl _ rfl _ rfl _ rfl ?_ ?_
    · unfold allCode; cases (allS s).isSome <;> rfl
    · intro h; unfold allCode; rw [h]; rfl
end Go.Proofs.Ytopihafmajadfaa
