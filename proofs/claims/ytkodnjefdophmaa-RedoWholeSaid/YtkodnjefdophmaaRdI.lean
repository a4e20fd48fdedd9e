/- Package redo: One. -/
import Derived.Test.YtkodnjefdophmaaRdH
import Derived.Test.YtkodnjefdophmaaPgC
namespace Go.Proofs.Ytkodnjefdophmaa
open Go.RowKit

section
set_option maxRecDepth 100000
set_option maxHeartbeats 16000000
theorem rdOne_any {w : World} {v : Value} {L : List Ent} (n : Int) (hL : IsEnts w v L) (hz : ∀ x ∈ L, x.2.after.size ≤ maxLen) :
    Calls Try.prog 14 #[v, .int .i64 n] w fun e w' => e = .returned (.agg #[.int .i64 (Hs.oneL L n).1, .string (Hs.oneL L n).2]) ∧ Below w.heap.size w w' := by
  obtain ⟨a, cap, rfl, hl1, hl2, hx⟩ := hL
  unfold maxLen at hl2
  have EM := Lib.hid pgEmpty_any
  have HX := Lib.hid hx
  have HZ := Lib.hid hz
  clear hx hz
  have R0 := Blk.new w 30 #[.int .i64 0, .string ⟨#[]⟩]
  have hB := (Below.refl w.heap.size w).alloc (Nat.le_refl _) (.cells #[.int .i64 0, .string ⟨#[]⟩] 30)
  go_enter Try.func14, Try.ntmps14
  go_wp2_with fail
  generalize w.alloc _ = w1 at *
  refine (EM.out _).mono ?_
  rintro e w2 ⟨rfl, hb⟩
  replace R0 := R0.keep hb R0.lt
  have hB2 := hB.trans (hb.mono hB.size)
  have N0 := Blk.new w2 30 #[.int .i64 0, .string ⟨#[]⟩]
  have P0 := N0.setRow #[.int .i64 0, .string noughts]
  have R1 := (R0.alloc (.cells #[.int .i64 0, .string ⟨#[]⟩] 30)).farRow (k := w2.heap.size) (by have := R0.lt; omega) #[.int .i64 0, .string noughts]
  have HB3 := Lib.hid (below_setRow (hB2.alloc hB2.size (.cells #[.int .i64 0, .string ⟨#[]⟩] 30)) (g := w2.heap.size) hB2.size #[.int .i64 0, .string noughts])
  have hgp := hB2.size
  have hne : w.heap.size ≠ w2.heap.size := by have := R0.lt; omega
  have HNE := Lib.hid hne
  clear hB2 hB hb EM R0 hne
  go_upto_region 2 with (refine wpList_store_row rfl 30 _ _ rfl w2.heap.size _ rfl rfl 30 _ N0 (by kernel_rfl) (by simp) (by simp [Value.oneCell']) ?_)
  clear N0
  change Code.wp _ _ _ _ ((w2.alloc (.cells #[.int .i64 0, .string ⟨#[]⟩] 30)).setRow w2.heap.size #[.int .i64 0, .string noughts])
  generalize (w2.alloc _).setRow _ _ = w3 at *
  generalize w2.heap.size = gp at *
  have HGP := Lib.hid hgp
  clear hgp
  go_wp2_with fail
  go_loopw [11] (fun vk wr => ∃ k : Nat, vk = .int .i64 k ∧ k ≤ L.length ∧ Below w.heap.size w wr ∧ Blk wr gp 30 #[.int .i64 (Hs.oneL (L.take k) n).1, .string (Hs.oneL (L.take k) n).2] ∧ Blk wr w.heap.size 30 #[.int .i64 0, .string ⟨#[]⟩]) (fun vk _ => L.length - (intOf vk).toNat)
  case atStart => exact ⟨0, rfl, Nat.zero_le _, HB3.out, P0, R1⟩
  case round =>
    obtain ⟨k, rfl, hk, hB, hP, hR⟩ := hrel
    clear HB3 P0 R1
    have HB := Lib.hid hB
    clear hB
    by_cases hlt : k < L.length
    · have HLT := Lib.hid hlt
      have hkI : (k : Int) < L.length := by omega
      have hm : L[k] ∈ L := List.getElem_mem hlt
      obtain ⟨b, off, vt, vp, rfl, lt1, la, ci⟩ := (EntsAt.keep HX.out HB.out).whole k hlt
      have HZR := Lib.hid (HZ.out _ hm)
      have HTK := Lib.hid (Hs.one_take hlt n)
      clear hm
      generalize L[k] = x at *
      clear hlt
      obtain ⟨at_, r⟩ := x
      simp only at la ci HZR
      obtain ⟨q, hq⟩ : ∃ q : Hs.Pge, q = Hs.oneL (L.take k) n := ⟨_, rfl⟩
      rw [← hq] at hP HTK
      clear hq
      obtain ⟨q1, q2⟩ := q
      obtain ⟨ta, tc, rfl⟩ := la.t.form
      obtain ⟨pa, pc, rfl⟩ := la.p.form
      have c0 : wr.cell? ⟨b, off + k * 12 + 0, none⟩ = _ := ci 0 _ rfl
      have c1 : wr.cell? ⟨b, off + k * 12 + 1, none⟩ = _ := ci 1 _ rfl
      have c2 : wr.cell? ⟨b, off + k * 12 + 2, none⟩ = _ := ci 2 _ rfl
      have c3 : wr.cell? ⟨b, off + k * 12 + 3, none⟩ = _ := ci 3 _ rfl
      have c4 : wr.cell? ⟨b, off + k * 12 + 4, none⟩ = _ := ci 4 _ rfl
      have c5 : wr.cell? ⟨b, off + k * 12 + 5, none⟩ = _ := ci 5 _ rfl
      have c6 : wr.cell? ⟨b, off + k * 12 + 6, none⟩ = _ := ci 6 _ rfl
      have c7 : wr.cell? ⟨b, off + k * 12 + 7, none⟩ = _ := ci 7 _ rfl
      have c8 : wr.cell? ⟨b, off + k * 12 + 8, none⟩ = _ := ci 8 _ rfl
      have c9 : wr.cell? ⟨b, off + k * 12 + 9, none⟩ = _ := ci 9 _ rfl
      have c10 : wr.cell? ⟨b, off + k * 12 + 10, none⟩ = _ := ci 10 _ rfl
      have c11 : wr.cell? ⟨b, off + k * 12 + 11, none⟩ = _ := ci 11 _ rfl
      rw [Nat.add_zero] at c0
      clear ci
      have hn := Blk.new wr 39 #[.int .i64 0, .int .i64 0, .int .i64 0, .int .i64 0, .int .i64 0, .int .i64 0, .int .i64 0, .int .i64 0, .string ⟨#[]⟩, .string ⟨#[]⟩, .slice none 0 0, .slice none 0 0]
      have N3 := hn.setRow (entCells at_ r (.slice ta r.txns.length tc) (.slice pa r.pages.length pc))
      have hb3 := below_setRow ((Below.refl wr.heap.size wr).alloc (Nat.le_refl _) (.cells #[.int .i64 0, .int .i64 0, .int .i64 0, .int .i64 0, .int .i64 0, .int .i64 0, .int .i64 0, .int .i64 0, .string ⟨#[]⟩, .string ⟨#[]⟩, .slice none 0 0, .slice none 0 0] 39)) (Nat.le_refl _) (entCells at_ r (.slice ta r.txns.length tc) (.slice pa r.pages.length pc))
      have HL3 := Lib.hid (la.keep hb3)
      have P3 := hP.keep hb3 hP.lt
      have R3 := hR.keep hb3 hR.lt
      have HB3 := Lib.hid (below2 HB.out hb3)
      clear hb3 hP hR HB la
      go_upto_region 5 with (refine wpList_store_row rfl 39 _ _ rfl wr.heap.size _ rfl rfl 39 _ hn (by kernel_rfl) rfl (by simp [entCells, Value.oneCell']) ?_)
      change Code.wp _ _ _ _ ((wr.alloc (.cells #[.int .i64 0, .int .i64 0, .int .i64 0, .int .i64 0, .int .i64 0, .int .i64 0, .int .i64 0, .int .i64 0, .string ⟨#[]⟩, .string ⟨#[]⟩, .slice none 0 0, .slice none 0 0] 39)).setRow wr.heap.size (entCells at_ r (.slice ta r.txns.length tc) (.slice pa r.pages.length pc)))
      clear hn c0 c1 c2 c3 c4 c5 c6 c7 c8 c9 c10 c11 lt1
      generalize (wr.alloc _).setRow _ _ = w4 at *
      generalize wr.heap.size = y at *
      have d3 : w4.cell? ⟨y, 3, none⟩ = some (.int .i64 r.page) := N3.cell 3
      by_cases hpn : r.page = n
      · have HST := Lib.hid (HTK.out.trans (if_pos hpn))
        have C := Lib.hid (rdBehind_any q1 q2 at_ r _ _ HL3.out HZR.out)
        have HPN := Lib.hid hpn
        clear HL3 HTK
        unfold entV at C
        go_upto_region 6 with fail
        clear d3 hpn
        have p0 := P3.cellAt (i := 0) (by simp)
        have p1 := P3.cellAt (i := 1) (by simp)
        simp at p0 p1
        have HB4 := Lib.hid HB3.out
        unfold entCells at C N3
        go_wp2_with (refine wpList_load_row rfl 39 _ rfl y rfl 39 _ (0, 0) _ N3 Try.underlying39 rfl (by kernel_rfl) ?_)
        refine C.out.mono ?_
        rintro e w5 ⟨rfl, hb⟩
        have P5 := P3.keep hb P3.lt
        have R5 := (R3.keep hb R3.lt).farRow (k := gp) HNE.out #[.int .i64 (Hs.apP (q1, q2) at_ r).1, .string (Hs.apP (q1, q2) at_ r).2]
        have HB5 := Lib.hid (below_setRow (g := gp) (below2 HB4.out hb) HGP.out #[.int .i64 (Hs.apP (q1, q2) at_ r).1, .string (Hs.apP (q1, q2) at_ r).2])
        clear hb N3 P3 R3 HB3 HB4 C p0 p1
        go_wp2_with (refine wpList_store_row rfl 30 _ _ rfl gp _ rfl rfl 30 _ P5 (by kernel_rfl) rfl (by simp [Value.oneCell']) ?_)
        exact ⟨⟨k + 1, by go_num, HLT.out, HB5.out, by rw [HST.out]; exact P5.setRow _, R5⟩, by simp [intOf]; have := HLT.out; omega⟩
      · have HST := Lib.hid (HTK.out.trans (if_neg hpn))
        clear HL3 HTK N3
        go_wp2
        exact ⟨⟨k + 1, by go_num, HLT.out, HB3.out, by rw [HST.out]; exact P3, R3⟩, by simp [intOf]; have := HLT.out; omega⟩
    · obtain rfl : k = L.length := by omega
      rw [List.take_length] at hP
      obtain ⟨q1, q2, hq⟩ : ∃ q1 q2, Hs.oneL L n = (q1, q2) := ⟨_, _, rfl⟩
      rw [hq] at hP
      have HQ := Lib.hid hq
      clear hq
      have p0 := hP.cellAt (i := 0) (by simp)
      have p1 := hP.cellAt (i := 1) (by simp)
      simp at p0 p1
      clear hP
      go_wp2_with (refine wpList_store_row rfl 30 _ _ rfl w.heap.size _ rfl rfl 30 _ hR (by kernel_rfl) (by simp) (by simp [Value.oneCell']) ?_)
      exact bodyPost_ret (results_cell_row rfl _ _ w.heap.size 30 _ (0, 0) _ rfl (hR.setRow _) Try.underlying30 rfl (by kernel_rfl)) rfl ⟨by rw [HQ.out], below_setRow HB.out (Nat.le_refl _) _⟩
end
end Go.Proofs.Ytkodnjefdophmaa
