/- Layer 4's statements: RecordTold, walked. -/
import Derived.Test.YtaidcgbhkhdaiaaRecM2
namespace Go.Proofs.Ytaidcgbhkhdaiaa
open Go.RowKit

set_option maxRecDepth 100000 in
set_option maxHeartbeats 8000000 in
theorem recordTold_long (s : ByteArray) (at_ : Int) (w : World) (hl : (1000 : Int) < s.size) :
    Calls Try.prog 9 #[.string s, .int .i64 at_] w fun e w' => e = .returned (.bool true) ∧ Below w.heap.size w w' := by
  go_enter Try.func9, Try.ntmps9
  go_wp2_with fail
  refine (awake_any _).mono ?_
  rintro e w1 ⟨rfl, hb1⟩
  go_wp2_with fail
  refine (awake_any _).mono ?_
  rintro e w2 ⟨rfl, hb2⟩
  have HB := Lib.hid (below2 hb1 hb2)
  clear hb1 hb2
  go_wp2
  go_ret
  exact ⟨rfl, HB.out⟩

set_option maxRecDepth 100000 in
set_option maxHeartbeats 8000000 in
theorem recordTold_none (s : ByteArray) (at_ : Int) (w : World) (hl : (s.size : Int) ≤ 1000) (er : Int) (hr : readR s at_ = (.nil, 0, er)) (he : (er != 0) = true) :
    Calls Try.prog 9 #[.string s, .int .i64 at_] w fun e w' => e = .returned (.bool true) ∧ Below w.heap.size w w' := by
  have HR := Lib.hid (fun W => rdRead_as s at_ W hr (by unfold maxLen; omega))
  clear hr
  go_enter Try.func9, Try.ntmps9
  go_wp2_with fail
  refine (awake_any _).mono ?_
  rintro e w1 ⟨rfl, hb1⟩
  have HB1 := Lib.hid hb1
  clear hb1
  go_wp2_with fail
  refine (HR.out _).mono ?_
  rintro e w2 ⟨v', rfl, ⟨vt', vp', hv', hl'⟩, hb2⟩
  subst hv'
  have one := hl'.one
  have hn := Blk.new w2 25 (recCells .nil (.slice none 0 0) (.slice none 0 0))
  have LB := Lib.hid (below2 (below2 HB1.out hb2) (below_setRow ((Below.refl _ _).alloc (Nat.le_refl _) (.cells (recCells .nil (.slice none 0 0) (.slice none 0 0)) 25)) (Nat.le_refl _) (recCells .nil vt' vp')))
  clear hb2 hl' HR HB1
  go_wp2_with (refine wpList_store_row rfl 25 _ _ rfl w2.heap.size _ rfl rfl 25 _ hn (by kernel_rfl) rfl one ?_)
  go_ret
  exact ⟨rfl, LB.out⟩

set_option maxRecDepth 100000 in
set_option maxHeartbeats 8000000 in
theorem recordTold_some (s : ByteArray) (k : Nat) (w : World) (hl : (s.size : Int) ≤ 1000) (hk : k ≤ s.size) (r : Rc) (l : List UInt8) (hp : recP (s.data.toList.drop k) = some (r, l)) :
    Calls Try.prog 9 #[.string s, .int .i64 k] w fun e w' => e = .returned (.bool true) ∧ Below w.heap.size w w' := by
  obtain ⟨hm, hd⟩ := recP_some hp
  have hlen : s.size - k = (lay r).length + l.length := by
    have := congrArg List.length hd
    rw [List.length_drop, List.length_append] at this
    exact this
  have hpos : 0 < (lay r).length := by unfold lay; simp
  obtain ⟨m, hmm⟩ : ∃ m : Nat, m = s.size - l.length := ⟨_, rfl⟩
  have hr : readR s k = (r, (m : Int), 0) := by
    unfold readR
    rw [if_neg (by omega), Int.toNat_natCast, hp]
    show (r, (s.size : Int) - l.length, (0 : Int)) = _
    rw [show (s.size : Int) - l.length = m from by omega]
  have hex : s.extract k m = ⟨(lay r).toArray⟩ := by
    apply str_ext
    rw [ByteArray.data_extract, Array.toList_extract, List.extract_eq_take_drop, hd, show m - k = (lay r).length from by omega, List.take_left' rfl]
  have hst : ((⟨(lay r).toArray⟩ : ByteArray).toList == (s.extract k m).toList) = true := by rw [hex]; simp
  have HR := Lib.hid (fun W => rdRead_as s k W hr (by unfold maxLen; omega))
  have PR := Lib.hid (fun (W : World) (v : Value) (hv : IsRec W v r) => print_yes hv hm)
  have hsl := slice_str (P := Try.prog) 9 Try.underlying9 s k m .i64 .i64 k m rfl rfl (by omega) (by omega)
  have g1 : (k : Int) < (m : Int) := by omega
  have g2 : (m : Int) ≤ (s.size : Int) := by omega
  have g3 : k < m := by omega
  have g4 : m ≤ s.size := by omega
  clear hr hex hd hlen hpos hp hm hmm
  generalize (⟨(lay r).toArray⟩ : ByteArray) = t at *
  go_enter Try.func9, Try.ntmps9
  go_wp2_with fail
  refine (awake_any _).mono ?_
  rintro e w1 ⟨rfl, hb1⟩
  have HB1 := Lib.hid hb1
  clear hb1
  go_wp2_with fail
  refine (HR.out _).mono ?_
  rintro e w2 ⟨v', rfl, ⟨vt', vp', hv', hl'⟩, hb2⟩
  subst hv'
  have one := hl'.one
  have hn := Blk.new w2 25 (recCells .nil (.slice none 0 0) (.slice none 0 0))
  have N3 := hn.setRow (recCells r vt' vp')
  have hb3 : Below w2.heap.size w2 ((w2.alloc (.cells (recCells .nil (.slice none 0 0) (.slice none 0 0)) 25)).setRow w2.heap.size (recCells r vt' vp')) := below_setRow ((Below.refl _ _).alloc (Nat.le_refl _) _) (Nat.le_refl _) _
  have HL3 := Lib.hid (hl'.keep hb3)
  have HB3 := Lib.hid (below2 (below2 HB1.out hb2) hb3)
  clear hb2 hl' HR HB1 hb3
  go_wp2_with (first
    | (refine wpList_store_row rfl 25 _ _ rfl w2.heap.size _ rfl rfl 25 _ hn (by kernel_rfl) rfl one ?_)
    | (refine wpList_load_rowG rfl 25 _ rfl w2.heap.size rfl 25 _ (0, 0) _ N3 Try.underlying25 rfl (by kernel_rfl) ?_))
  refine (PR.out _ _ ⟨vt', vp', rfl, HL3.out⟩).mono ?_
  rintro e w4 ⟨rfl, hb4⟩
  have LB := Lib.hid (below2 HB3.out hb4)
  clear hb4 HL3 HB3 N3 hn PR one
  go_wp2
  go_ret
  exact ⟨rfl, LB.out⟩

theorem walkRecordTold (s : ByteArray) (at_ : Int) (w : World) (_ : s.size ≤ maxLen) (_ : (Lit.int .i64 at_).wf = true) :
    Calls Try.prog 9 #[.string s, .int .i64 at_] w fun e w' => e = .returned (.bool true) ∧ Below w.heap.size w w' := by
  by_cases hl : (1000 : Int) < s.size
  · exact recordTold_long s at_ w hl
  · by_cases h : at_ < 0 ∨ (s.size : Int) < at_
    · exact recordTold_none s at_ w (by omega) 2 (by unfold readR; rw [if_pos h]) rfl
    · obtain ⟨k, rfl⟩ := Int.eq_ofNat_of_zero_le (show 0 ≤ at_ by omega)
      cases hp : recP (s.data.toList.drop k) with
      | none => exact recordTold_none s k w (by omega) 3 (by unfold readR; rw [if_neg h, Int.toNat_natCast, hp]; rfl) rfl
      | some x => exact recordTold_some s k w (by omega) (by omega) x.1 x.2 hp
end Go.Proofs.Ytaidcgbhkhdaiaa
