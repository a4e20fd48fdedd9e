/- Package master: Write. -/
import Derived.Test.YtbjpnkjddfpmpaaMaG
namespace Go.Proofs.Ytbjpnkjddfpmpaa
open Go.RowKit

section
variable {w : World} {F : Foot} {g : Nat} {D : Dk}
theorem bodyM_nat (c l : Nat) : bodyM ⟨c, l⟩ = ⟨(be4 c ++ be4 l).toArray⟩ := rfl
/-- What Write is to come to. -/
def MaWrote (w : World) (F : Foot) (g : Nat) (D' : Dk) (n : Nat) (e : Ending) (w' : World) : Prop := e = .returned (.int .i64 n) ∧ ∃ F', IsDisk w' F' g D' ∧ Step F F' w w'
set_option maxRecDepth 100000 in
set_option maxHeartbeats 4000000 in
theorem maWrite_fits (h : IsDisk w F g D) (b : Int) (t c l : Nat) (ht : t < 4294967296) (hc : c ≤ 2147483647) (hl : l ≤ 2147483647) (hm : Ms.May ⟨c, l⟩) (hf : Cd.fits D b) (hw : D.waits.length < 16777216) (n : Nat) (hn : D.writeE (Cd.side b t) (encM t ⟨c, l⟩) = n) (Dn : Dk) (kn : Nat) (hk : (n ≠ 0 ∧ Dn = D.write (Cd.side b t) (encM t ⟨c, l⟩) ∧ kn = n) ∨ (n = 0 ∧ Dn = (D.write (Cd.side b t) (encM t ⟨c, l⟩)).sync ∧ kn = (D.write (Cd.side b t) (encM t ⟨c, l⟩)).syncE)) :
    Calls Try.prog 13 #[.pointer (some ⟨g, 0, none⟩), .int .i64 b, .int .u32 t, .agg #[.int .i64 c, .int .i64 l]] w (MaWrote w F g Dn kn) := by
  have HH : Hid (∀ W, Below w.heap.size w W → _) := fun W hW => maHas_any (h.below hW) b true (by simp [hf])
  have HC := Lib.hid (fun W => maRight_any c l W true (by simp [hm]))
  have HL := Lib.hid (fun W => maLay_any c l W hc hl)
  have b0 : 0 ≤ b := hf.1
  have b5 : b ≤ 512 := by have := hf.2; have := h.1.le; omega
  have HP := Lib.hid (fun W => pack_c t 0 (bodyM ⟨c, l⟩) W ht (by decide) (by rw [bodyM_size]; decide))
  have HW : Hid (∀ W, Below w.heap.size w W → Calls Try.prog 25 #[.pointer (some ⟨g, 0, none⟩), .int .i64 (b + ((t : Int) % 2)), .string (packed t 0 (bodyM ⟨c, l⟩))] W fun e w' => e = .returned (.int .i64 n) ∧ ∃ F', IsDisk w' F' g (D.write (Cd.side b t) (encM t ⟨c, l⟩)) ∧ Step F F' W w') := fun W hW => by
    rw [← hn, show b + ((t : Int) % 2) = Cd.side b t from by unfold Cd.side; omega]
    exact write_any (h.below hW) (Cd.side b t) (encM t ⟨c, l⟩) hw
  have iw : Hid (IntKind.i64.wrap ((t : Int) % 2) = (t : Int) % 2) := Lib.hid (by rw [IntKind.wrap_i64]; omega)
  clear h hf hw hn hc hl hm ht
  rw [bodyM_nat] at HP HW
  generalize D.write (Cd.side b t) (encM t ⟨c, l⟩) = D' at *
  go_enter Try.func13, Try.ntmps13
  go_wp2_with fail
  have B0 := (Below.refl w.heap.size w).alloc (Nat.le_refl _) (.cells #[.int .i64 c, .int .i64 l] 30)
  have R0 := Blk.new w 30 #[.int .i64 c, .int .i64 l]
  refine (HC.out _).mono ?_
  rintro e w2 ⟨rfl, hb2⟩
  have B2 := below2 B0 hb2
  have R2 := R0.keep hb2 R0.lt
  clear R0 B0 hb2 HC
  go_wp2_with fail
  refine (HH.out _ B2).mono ?_
  rintro e w3 ⟨rfl, rfl⟩
  clear HH
  go_wp2_with (refine wpList_load_row rfl 30 _ rfl w.heap.size rfl 30 _ (0, 0) _ R2 Try.underlying30 rfl (by kernel_rfl) ?_)
  refine (HL.out _).mono ?_
  rintro e w4 ⟨rfl, hb4⟩
  have B4 := below2 B2 hb4
  clear R2 B2 hb4 HL
  have Z4 := Blk.new w4 61 (bytesV [0, 0, 0, 0, 0, 0, 0, 0])
  have S1 : (bytesV (be4 c ++ be4 l)).size = 8 := by rw [bytesV_size]; rfl
  have S3 := bytesV_one12 (be4 c ++ be4 l)
  have X4 := Lib.hid (Z4.setRow (bytesV (be4 c ++ be4 l)))
  have B5 := Lib.hid (below_setRow (B4.alloc B4.size (.cells (bytesV [0, 0, 0, 0, 0, 0, 0, 0]) 61)) B4.size (bytesV (be4 c ++ be4 l)))
  go_upto_region 6 with (refine wpList_store_row rfl 61 _ _ rfl w4.heap.size _ rfl rfl 61 _ Z4 (by rw [S1]; kernel_rfl) (by rw [S1]; rfl) S3 ?_)
  clear Z4 S1 S3 B4
  change Code.wp _ _ _ _ ((w4.alloc (.cells (bytesV [0, 0, 0, 0, 0, 0, 0, 0]) 61)).setRow w4.heap.size (bytesV (be4 c ++ be4 l)))
  have hcv := conv_blk X4.out 0 8 8 (by simp [be4]) 32 5 9 Try.underlying32 Try.underlying5 Try.underlying9
  rw [List.drop_zero, List.take_of_length_le (by simp [be4])] at hcv
  clear X4
  generalize (⟨(be4 c ++ be4 l).toArray⟩ : ByteArray) = bd at *
  generalize (w4.alloc (.cells (bytesV [0, 0, 0, 0, 0, 0, 0, 0]) 61)).setRow w4.heap.size (bytesV (be4 c ++ be4 l)) = w5 at *
  go_wp2_with fail
  refine (HP.out _).mono ?_
  rintro e w6 ⟨rfl, hb6⟩
  have B6 := Lib.hid (below2 B5.out hb6)
  clear hb6 HP B5 hcv
  go_wp2_with fail
  refine (HW.out _ B6.out).mono ?_
  rintro e w7 ⟨rfl, F7, hd7, hs7⟩
  have S7 := Lib.hid ((Step.ofBelow (F := F) B6.out).trans hs7)
  have HD7 := Lib.hid hd7
  have HY7 := Lib.hid (sync_any hd7)
  clear hd7 hs7 B6 HW iw
  rcases hk with ⟨hn, rfl, rfl⟩ | ⟨rfl, hD, hK⟩
  · have hne : (((kn : Nat) : Int) != 0) = true := by simpa using hn
    have hn' : ¬ (kn : Int) = 0 := by omega
    clear hn HY7
    go_wp2
    go_ret
    exact ⟨rfl, F7, HD7.out, S7.out⟩
  · have HK := Lib.hid hK
    have HDn := Lib.hid hD
    clear hK hD HD7
    go_wp2_with fail
    refine HY7.out.mono ?_
    rintro e w8 ⟨rfl, hd8, hs8⟩
    have S8 := Lib.hid (S7.out.trans hs8)
    have HD8 := Lib.hid hd8
    clear hs8 hd8 HY7 S7
    go_wp2
    go_ret
    exact ⟨by rw [HK.out]; rfl, F7, by rw [HDn.out]; exact HD8.out, S8.out⟩
set_option maxRecDepth 100000 in
set_option maxHeartbeats 4000000 in
theorem maWrite_bad (h : IsDisk w F g D) (b : Int) (t : Nat) (m : Ms) (hm : ¬ (m.May ∧ Cd.fits D b)) :
    Calls Try.prog 13 #[.pointer (some ⟨g, 0, none⟩), .int .i64 b, .int .u32 t, .agg #[.int .i64 m.check, .int .i64 m.low]] w (MaWrote w F g D 1) := by
  have HH : Hid (∀ W, Below w.heap.size w W → _) := fun W hW => maHas_any (h.below hW) b (decide (Cd.fits D b)) rfl
  have HC := Lib.hid (fun W => maRight_any m.check m.low W (decide m.May) rfl)
  have HX := Lib.hid h
  have B0 := (Below.refl w.heap.size w).alloc (Nat.le_refl _) (.cells #[.int .i64 m.check, .int .i64 m.low] 30)
  clear h
  by_cases hy : m.May
  · have hf : ¬ Cd.fits D b := fun k => hm ⟨hy, k⟩
    rw [decide_eq_true hy] at HC
    rw [decide_eq_false hf] at HH
    clear hm hy hf
    go_enter Try.func13, Try.ntmps13
    go_wp2_with fail
    refine (HC.out _).mono ?_
    rintro e w2 ⟨rfl, hb2⟩
    have B2 := below2 B0 hb2
    clear B0 hb2 HC
    go_wp2_with fail
    refine (HH.out _ B2).mono ?_
    rintro e w3 ⟨rfl, rfl⟩
    have HB := Lib.hid B2
    clear HH B2
    go_wp2
    go_ret
    exact ⟨rfl, F, HX.out.below HB.out, .ofBelow HB.out⟩
  · rw [decide_eq_false hy] at HC
    clear hm hy HH
    go_enter Try.func13, Try.ntmps13
    go_wp2_with fail
    refine (HC.out _).mono ?_
    rintro e w2 ⟨rfl, hb2⟩
    have HB := Lib.hid (below2 B0 hb2)
    clear B0 hb2 HC
    go_wp2
    go_ret
    exact ⟨rfl, F, HX.out.below HB.out, .ofBelow HB.out⟩
theorem maWrite_any (h : IsDisk w F g D) (b : Int) (t : Nat) (m : Ms) (ht : t < 4294967296) (hw : D.waits.length < 16777216) :
    Calls Try.prog 13 #[.pointer (some ⟨g, 0, none⟩), .int .i64 b, .int .u32 t, .agg #[.int .i64 m.check, .int .i64 m.low]] w (MaWrote w F g (cdM.write D b t m) (cdM.writeE D b t m)) := by
  by_cases hm : m.May ∧ Cd.fits D b
  · obtain ⟨hm, hf⟩ := hm
    obtain ⟨c, l⟩ := m
    obtain ⟨m1, m2, m3, m4⟩ := id hm
    simp only at m1 m2 m3 m4
    obtain ⟨c, rfl⟩ := Int.eq_ofNat_of_zero_le m1
    obtain ⟨l, rfl⟩ := Int.eq_ofNat_of_zero_le (show 0 ≤ l by omega)
    cases hb : D.bears with
    | true =>
      obtain ⟨k1, k2, k3⟩ := wr_borne (t := t) hm hf hb
      rw [k2, k3]
      exact maWrite_fits h b t c l ht (by omega) (by omega) hm hf hw 0 k1 _ _ (.inr ⟨rfl, rfl, rfl⟩)
    | false =>
      obtain ⟨k1, k2, k3⟩ := wr_dead (t := t) hm hf hb
      rw [k2, k3]
      exact maWrite_fits h b t c l ht (by omega) (by omega) hm hf hw 4 k1 _ _ (.inl ⟨by decide, rfl, rfl⟩)
  · obtain ⟨k1, k2⟩ := wr_bad (t := t) hm
    rw [k1, k2]
    exact maWrite_bad h b t m hm
set_option maxRecDepth 100000 in
theorem maWrite_nil (b : Int) (t c l : Int) (w : World) :
    Calls Try.prog 13 #[.pointer none, .int .i64 b, .int .u32 t, .agg #[.int .i64 c, .int .i64 l]] w fun e w' => e = .returned (.int .i64 10) ∧ Below w.heap.size w w' := by
  have B0 := Lib.hid ((Below.refl w.heap.size w).alloc (Nat.le_refl _) (.cells #[.int .i64 c, .int .i64 l] 30))
  go_enter Try.func13, Try.ntmps13
  go_wp2
  go_ret
  exact ⟨rfl, B0.out⟩
end
end Go.Proofs.Ytbjpnkjddfpmpaa
