/- Layer 4's statements: RecordRow, walked. -/
import Derived.Test.YtopihafmajadfaaRecAll
import Derived.Test.YtopihafmajadfaaRecM2
import Derived.Test.YtopihafmajadfaaOpenRecs
import Derived.Test.YtopihafmajadfaaWl
import Derived.Test.YtopihafmajadfaaRecShort
import Derived.Laws.Concat
namespace Go.Proofs.Ytopihafmajadfaa
open Go.RowKit

set_option maxRecDepth 100000 in
set_option maxHeartbeats 8000000 in
theorem recordRow_long (v : Value) (l : List Rc) (w : World) (hv : IsRecs w v l) (hl : 30 < l.length) :
    Calls Try.prog 4 #[v] w fun e w' => e = .returned (.bool true) ∧ Below w.heap.size w w' := by
  obtain ⟨a, cap, rfl, h1, h2, _⟩ := hv
  have hm : (30 : Int) < l.length := by omega
  clear h1 h2 hl
  go_enter Try.func4, Try.ntmps4
  go_wp2_with fail
  refine (awake_any _).mono ?_
  rintro e w1 ⟨rfl, hb1⟩
  go_wp2_with fail
  refine (awake_any _).mono ?_
  rintro e w2 ⟨rfl, hb2⟩
  have HB := Lib.hid (below2 hb1 hb2)
  clear hb1 hb2
  go_wp2
  go_ret
  exact ⟨rfl, HB.out⟩

set_option maxRecDepth 100000 in
set_option maxHeartbeats 8000000 in
theorem recordRow_some (v : Value) (l : List Rc) (w : World) (hv : IsRecs w v l) (hl : l.length ≤ 30) :
    Calls Try.prog 4 #[v] w fun e w' => e = .returned (.bool true) ∧ Below w.heap.size w w' := by
  have HV := Lib.hid hv
  obtain ⟨a, cap, rfl, h1, h2, _⟩ := hv
  have hm : ¬ (30 : Int) < l.length := by omega
  have hm2 : (l.length : Int) ≤ 30 := by omega
  clear h1 h2
  go_enter Try.func4, Try.ntmps4
  go_wp2_with fail
  refine (awake_any _).mono ?_
  rintro e w1 ⟨rfl, hb1⟩
  have HB1 := Lib.hid hb1
  clear hb1
  go_wp2_with fail
  obtain ⟨i0, hi0, hz0, hz1, hz2⟩ := info_parts info_entry
  have HI := Lib.hid (And.intro hi0 (And.intro hz0 (And.intro hz1 hz2)))
  clear hi0 hz0 hz1 hz2
  go_loopw [3, 4, 21] (fun vs vw vk wr => ∃ (k : Nat) (rs : List Rc) (q : List Qe), vk = .int .i64 k ∧ k ≤ l.length ∧ vs = .string (bodyS rs) ∧ (∀ r ∈ rs, May r) ∧ (body rs).length ≤ k * 112 ∧ q.length ≤ k ∧ OwnE wr w.heap.size vw q ∧ q.map Qe.ent = entsOf 0 rs ∧ Below w.heap.size w wr) (fun _ _ vk _ => l.length - (intOf vk).toNat)
  case atStart => exact ⟨0, [], [], rfl, Nat.zero_le _, rfl, fun r hr => (by cases hr), Nat.le_refl _, Nat.le_refl _, OwnE.nil _ _, rfl, HB1.out⟩
  case round =>
    obtain ⟨k, rs, q, rfl, hk, rfl, hmay, hbl, hql, ho, hq, hB⟩ := hrel
    have HO := Lib.hid ho
    have HQ := Lib.hid hq
    have HMAY := Lib.hid hmay
    have HB := Lib.hid hB
    clear ho hq hmay hB HB1
    by_cases hlt : k < l.length
    · obtain ⟨b, off, cap', hva, _, _, hbw, hel⟩ := HV.out.at_ (by omega)
      cases hva
      obtain ⟨ta, tc, pa, pc, hls0, hsz, hc⟩ := hel k hlt
      have HLS := Lib.hid (hls0.keep HB.out)
      have HSZ := Lib.hid hsz
      have HOLD := Lib.hid hls0
      obtain ⟨c0, c1, c2, c3, c4, c5, c6, c7, c8, c9, c10⟩ := hc.keep HB.out
      clear hls0 hsz hel hc
      generalize l[k] = r at *
      have hn := Blk.new wr 26 (recCells .nil (.slice none 0 0) (.slice none 0 0))
      have N3 := hn.setRow (recCells r (.slice ta r.txns.length tc) (.slice pa r.pages.length pc))
      have hb3 : Below wr.heap.size wr ((wr.alloc (.cells (recCells .nil (.slice none 0 0) (.slice none 0 0)) 26)).setRow wr.heap.size (recCells r (.slice ta r.txns.length tc) (.slice pa r.pages.length pc))) := below_setRow ((Below.refl _ _).alloc (Nat.le_refl _) _) (Nat.le_refl _) _
      have HO3 := Lib.hid (HO.out.keep hb3)
      have HLS3 := Lib.hid (HLS.out.keep hb3)
      have HB3 := Lib.hid (below2 HB.out hb3)
      go_upto_region 8 with (refine wpList_store_row rfl 26 _ _ rfl wr.heap.size _ rfl rfl 26 _ hn (by kernel_rfl) rfl (by simp [recCells, Value.oneCell']) ?_)
      clear hn hb3 c0 c1 c2 c3 c4 c5 c6 c7 c8 c9 c10 HLS HO HB hbw
      change Code.wp _ _ _ _ ((wr.alloc (.cells (recCells .nil (.slice none 0 0) (.slice none 0 0)) 26)).setRow wr.heap.size (recCells r (.slice ta r.txns.length tc) (.slice pa r.pages.length pc)))
      generalize (wr.alloc (.cells (recCells .nil (.slice none 0 0) (.slice none 0 0)) 26)).setRow wr.heap.size (recCells r (.slice ta r.txns.length tc) (.slice pa r.pages.length pc)) = w3 at *
      generalize wr.heap.size = x at *
      have IR : Hid (IsRec w3 (.agg (recCells r (.slice ta r.txns.length tc) (.slice pa r.pages.length pc))) r) := ⟨_, _, rfl, HLS3.out⟩
      by_cases hf : Fit r
      · have FEW := Lib.hid (few_yes IR.out hf)
        have HF := Lib.hid hf
        clear hf
        go_wp2_with (refine wpList_load_row rfl 26 _ rfl x rfl 26 _ (0, 0) _ N3 Try.underlying26 rfl (by kernel_rfl) ?_)
        refine FEW.out.mono ?_
        rintro e w4 ⟨rfl, hb4⟩
        have N4 := N3.keep hb4 N3.lt
        have HO4 := Lib.hid (HO3.out.keep hb4)
        have HL4 := Lib.hid (HLS3.out.keep hb4)
        have HB4 := Lib.hid (below2 HB3.out hb4)
        have IR4 := Lib.hid (IR.out.keep hb4)
        clear hb4 N3 HO3 HLS3 HB3 IR FEW
        by_cases hm : May r
        · have PR := Lib.hid (print_yes IR4.out hm)
          have hlen : (⟨(lay r).toArray⟩ : ByteArray).size ≤ 112 := by have := lay_short hm; simpa [ByteArray.size] using this
          have HM := Lib.hid hm
          clear hm
          have hcat : bodyS rs ++ (⟨(lay r).toArray⟩ : ByteArray) = bodyS (rs ++ [r]) := str_ext (by rw [ByteArray.data_append, Array.toList_append, bodyS_data, bodyS_data, body_snoc])
          have hsz1 := bodyS_size rs
          have HCAT := Lib.hid hcat
          have HSZ1 := Lib.hid hsz1
          have hbs : (bodyS rs).size ≤ 3360 := by omega
          clear hcat hsz1
          have add : ∀ W, (Op.stringOp .add (bodyS rs) (⟨(lay r).toArray⟩ : ByteArray)).run Try.prog W = .ok (.string (bodyS rs ++ (⟨(lay r).toArray⟩ : ByteArray))) W := fun W => run_string_add_sum W _ _ (by omega)
          generalize (⟨(lay r).toArray⟩ : ByteArray) = t at *
          generalize bodyS rs = u at *
          go_wp2_with (refine wpList_load_row rfl 26 _ rfl x rfl 26 _ (0, 0) _ N4 Try.underlying26 rfl (by kernel_rfl) ?_)
          refine PR.out.mono ?_
          rintro e w5 ⟨rfl, hb5⟩
          have N5 := N4.keep hb5 N4.lt
          have HO5 := Lib.hid (HO4.out.keep hb5)
          have HL5 := Lib.hid (HL4.out.keep hb5)
          have HB5 := Lib.hid (below2 HB4.out hb5)
          clear hb5 N4 HO4 HL4 HB4 IR4 PR
          unfold recCells at N5
          obtain ⟨hi0, hz0, hz1, hz2⟩ := id HI.out
          have B6 : Below w5.heap.size w5 (w5.alloc (.cells (Qe.cells ⟨u.size, r, .slice ta r.txns.length tc, .slice pa r.pages.length pc⟩).toArray 45)) := (Below.refl _ _).alloc (Nat.le_refl _) _
          have HO6 := Lib.hid (HO5.out.keep B6)
          have HL6 := Lib.hid (HL5.out.keep B6)
          have HB6 := Lib.hid (below2 HB5.out B6)
          have hq6 := HB6.out.size
          have HAP : Hid (Apart u4 ⟨u.size, r, .slice ta r.txns.length tc, .slice pa r.pages.length pc⟩) := fun b' hb' => by
            have hge := (HO6.out.own.lt b' hb').1
            exact ⟨fun hr hv => by have := HOLD.out.t.blt hr b' hv; omega, fun hr hv => by have := HOLD.out.p.blt hr b' hv; omega⟩
          clear B6 HO5 HL5 HB5
          go_wp2_with (first
            | (refine wpList_load_row rfl 26 _ rfl x rfl 26 _ (0, 0) _ N5 Try.underlying26 rfl (by kernel_rfl) ?_)
            | (at_builtin; refine wpList_append_lies _ rfl (.tmp 35) (.tmp 40) 32 rfl w.heap.size 45 i0 entryZero 12 144 Try.underlying32 hi0 hz0 hz1 hz2 rfl (by decide) _ _ _ rfl HO6.out.own ⟨w5.heap.size, 0, none⟩ 1 1 (Qe.cells ⟨u.size, r, .slice ta r.txns.length tc, .slice pa r.pages.length pc⟩) rfl rfl (World.news_of_block (heap_alloc_new w5 _)) (by simp [Qe.cells, recCells, Value.oneCell']) (by omega) (by simp only [maxLen]; omega) (by omega) hq6 _ rfl ?_))
          intro gg cap'' w7 hown hgrow hat hlt7
          have HO7 := Lib.hid (HO6.out.pushed HL6.out HAP.out hown hgrow (by rw [World.size_alloc]; exact hat))
          have HB7 := Lib.hid (show Below w.heap.size w w7 from HB6.out.trans ⟨hgrow.os, hgrow.tape, hgrow.output, hgrow.size, fun b hb => hgrow.block b (Nat.lt_of_lt_of_le hb hq6) fun e => by have := (HO6.out.own.lt b e.symm).1; omega⟩)
          clear hown hgrow hat HO6 HL6 HB6
          go_wp2
          go_roundw
          case rel =>
            refine ⟨k + 1, rs ++ [r], q ++ [⟨u.size, r, .slice ta r.txns.length tc, .slice pa r.pages.length pc⟩], by go_num, by omega, by rw [← HCAT.out], fun r' hr' => ?_, ?_, by simp; omega, by simpa using HO7.out, ?_, HB7.out⟩
            · rcases List.mem_append.1 hr' with hr' | hr'
              · exact HMAY.out r' hr'
              · simp at hr'; subst hr'; exact HM.out
            · rw [body_snoc, List.length_append]
              have := lay_short HM.out
              omega
            · rw [List.map_append, HQ.out, entsOf_snoc]
              simp only [List.map_cons, List.map_nil, Qe.ent]
              rw [HSZ1.out]
              show entsOf 0 rs ++ [(((body rs).length : Int), r)] = entsOf 0 rs ++ [((0 : Int) + ((body rs).length : Int), r)]
              rw [Int.zero_add]
          case measure => simp [intOf]; omega
        · have PR := Lib.hid (print_no IR4.out HF.out hm)
          clear hm
          go_wp2_with (refine wpList_load_row rfl 26 _ rfl x rfl 26 _ (0, 0) _ N4 Try.underlying26 rfl (by kernel_rfl) ?_)
          refine PR.out.mono ?_
          rintro e w5 ⟨rfl, hb5⟩
          have HO5 := Lib.hid (HO4.out.keep hb5)
          have HB5 := Lib.hid (below2 HB4.out hb5)
          clear hb5 N4 HO4 HL4 HB4 IR4 PR
          go_wp2
          go_roundw
          case rel => exact ⟨k + 1, rs, q, by go_num, by omega, rfl, HMAY.out, by omega, by omega, HO5.out, HQ.out, HB5.out⟩
          case measure => simp [intOf]; omega
      · have FEW := Lib.hid (few_no IR.out HSZ.out hf)
        clear hf
        go_wp2_with (refine wpList_load_row rfl 26 _ rfl x rfl 26 _ (0, 0) _ N3 Try.underlying26 rfl (by kernel_rfl) ?_)
        refine FEW.out.mono ?_
        rintro e w4 ⟨rfl, hb4⟩
        have HB4 := Lib.hid (below2 HB3.out hb4)
        clear hb4 N3 HO3 HLS3 HB3 IR FEW
        go_wp2
        go_ret
        exact ⟨rfl, HB4.out⟩
    · obtain rfl : k = l.length := by omega
      have hall := fun W => all_any (bodyS rs) W (by rw [bodyS_size]; omega)
      have hsome : allS (bodyS rs) = some (entsOf 0 rs) := allS_body HMAY.out
      rw [hsome] at hall
      have HALL := Lib.hid hall
      clear hall hsome
      go_wp2_with fail
      refine (HALL.out _).mono ?_
      rintro e w5 ⟨v5, q5, rfl, hq5, ho5, hb5⟩
      have E1 := Lib.hid (ho5.isEnts)
      rw [hq5] at E1
      have E2 := Lib.hid ((HO.out.keep hb5).isEnts)
      rw [HQ.out] at E2
      have HB5 := Lib.hid (below2 HB.out hb5)
      clear ho5 hb5 hq5 HALL
      go_wp2_with fail
      refine (refSameAll_any E1.out E2.out true (by simp)).mono ?_
      rintro e w6 ⟨rfl, hb6⟩
      have HB6 := Lib.hid (below2 HB5.out hb6)
      clear hb6
      go_wp2
      go_ret
      exact ⟨rfl, HB6.out⟩
theorem walkRecordRow (v : Value) (l : List Rc) (w : World) (hv : IsRecs w v l) :
    Calls Try.prog 4 #[v] w fun e w' => e = .returned (.bool true) ∧ Below w.heap.size w w' := by
  by_cases hl : l.length ≤ 30
  · exact recordRow_some v l w hv hl
  · exact recordRow_long v l w hv (by omega)
end Go.Proofs.Ytopihafmajadfaa
