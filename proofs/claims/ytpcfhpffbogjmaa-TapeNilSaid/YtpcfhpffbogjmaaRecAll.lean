/- Package record: All. -/
import Derived.Test.YtpcfhpffbogjmaaEntQ
import Derived.Test.YtpcfhpffbogjmaaRecL
import Derived.Deep.AppendLies
namespace Go.Proofs.Ytpcfhpffbogjmaa
open Go.RowKit

/-- Rows that aren't empty lie in blocks from B on. -/
def FreshQ (B : Nat) (q : List Qe) : Prop := ∀ x ∈ q, (rows3 x.r.txns ≠ [] → ∀ b, x.vt.ownBlock = some b → B ≤ b) ∧ (rows2 x.r.pages ≠ [] → ∀ b, x.vp.ownBlock = some b → B ≤ b)
theorem FreshQ.nil (B : Nat) : FreshQ B [] := fun x h => by simp at h
theorem FreshQ.snoc {B : Nat} {q : List Qe} {x : Qe} (h : FreshQ B q) (ht : ∀ b, x.vt.ownBlock = some b → B ≤ b) (hp : ∀ b, x.vp.ownBlock = some b → B ≤ b) : FreshQ B (q ++ [x]) := fun y hy => by
  rcases List.mem_append.1 hy with hy | hy
  · exact h y hy
  · simp at hy; subst hy; exact ⟨fun _ => ht, fun _ => hp⟩
def allCode (o : Option (List Ent)) : Int := if o.isSome then 0 else 3
/-- A list of one's own, and whether there was nothing else. -/
def AllOut (w : World) (o : Option (List Ent)) (e : Ending) (w' : World) : Prop :=
  ∃ v q, e = .returned (.tuple #[v, .int .i64 (allCode o)]) ∧ q.map Qe.ent = o.getD [] ∧ OwnE w' w.heap.size v q ∧ Below w.heap.size w w' ∧ FreshQ w.heap.size q
def entryZero : Value := .agg #[.int .i64 0, .int .i64 0, .int .i64 0, .int .i64 0, .int .i64 0, .int .i64 0, .int .i64 0, .int .i64 0, .string ⟨#[]⟩, .string ⟨#[]⟩, .slice none 0 0, .slice none 0 0]
theorem info_entry : (Try.prog.info? 58).map (fun i => (i.zero, i.size, i.bytes)) = some (some entryZero, 12, 144) := by kernel_rfl
abbrev allS (s : ByteArray) : Option (List Ent) := allL s.data.toList.length 0 s.data.toList

set_option maxRecDepth 100000 in
set_option maxHeartbeats 4000000 in
theorem all_any (s : ByteArray) (w : World) (hs : s.size ≤ 16777216) : Calls Try.prog 71 #[.string s] w (AllOut w (allS s)) := by
  have hm : s.size ≤ maxLen := by unfold maxLen; omega
  have HM := Lib.hid hm
  clear hm
  go_enter Try.func71, Try.ntmps71
  go_wp2
  go_loopw [4, 5] (fun v i wr => ∃ (q : List Qe) (k : Nat) (l : List UInt8), i = .int .i64 k ∧ k ≤ s.size ∧ q.length ≤ k ∧ OwnE wr w.heap.size v q ∧ Along s.data.toList (q.map Qe.ent) k l ∧ Below w.heap.size w wr ∧ FreshQ w.heap.size q) (fun _ i _ => s.size - (intOf i).toNat)
  case atStart => exact ⟨[], 0, _, rfl, Nat.zero_le _, Nat.le_refl _, OwnE.nil _ _, Along.start _, Below.refl _ _, FreshQ.nil _⟩
  case round =>
    obtain ⟨q, k, l, rfl, hk, hq, ho, hal, hB, hfr⟩ := hrel
    have HFR := Lib.hid hfr
    clear hfr
    have HO := Lib.hid ho
    have HAL := Lib.hid hal
    have HB := Lib.hid hB
    clear ho hal hB
    by_cases hlt : k < s.size
    · cases hp : recP (s.data.toList.drop k) with
      | none =>
        have hr : readR s k = (.nil, 0, 3) := by unfold readR; rw [if_neg (by omega), Int.toNat_natCast, hp]; rfl
        have HR := Lib.hid (rdRead_new s k wr HM.out)
        rw [hr] at HR
        have hno : allS s = none := HAL.out.stop (by rw [HAL.out.2.1]; intro hc; have := congrArg List.length hc; simp at this; omega) (by rw [HAL.out.2.1]; exact hp)
        have HNO := Lib.hid hno
        clear hp hr hno
        go_wp2_with fail
        refine HR.out.mono ?_
        rintro e w1 ⟨vt, vp, rfl, hl, nt, np, hb⟩
        have one := hl.one
        have hn := Blk.new w1 50 (recCells .nil (.slice none 0 0) (.slice none 0 0))
        have LB := Lib.hid (below2 (below2 HB.out hb) (below_setRow ((Below.refl _ _).alloc (Nat.le_refl _) (.cells (recCells .nil (.slice none 0 0) (.slice none 0 0)) 50)) (Nat.le_refl _) (recCells .nil vt vp)))
        clear hb hl nt np
        go_wp2_with (refine wpList_store_row rfl 50 _ _ rfl w1.heap.size _ rfl rfl 50 _ hn (by kernel_rfl) rfl one ?_)
        go_ret2
        refine ⟨.slice none 0 0, [], ?_, ?_, OwnE.nil _ _, LB.out, FreshQ.nil _⟩
        · rw [HNO.out]; rfl
        · rw [HNO.out]; rfl
      | some x =>
        obtain ⟨r, l'⟩ := x
        have hr : readR s k = (r, (s.size : Int) - l'.length, 0) := by unfold readR; rw [if_neg (by omega), Int.toNat_natCast, hp]; rfl
        have hls := recP_less hp
        rw [List.length_drop, size_bytes] at hls
        obtain ⟨m, hmm⟩ : ∃ m : Nat, m = s.size - l'.length := ⟨_, rfl⟩
        rw [show (s.size : Int) - l'.length = (m : Int) by omega] at hr
        have HR := Lib.hid (rdRead_new s k wr HM.out)
        rw [hr] at HR
        have HST := Lib.hid (HAL.out.step (by rw [HAL.out.2.1]; exact hp))
        rw [show s.data.toList.length - l'.length = m by rw [hmm, size_bytes]] at HST
        have hkm : k + 1 ≤ m := by omega
        have hms : m ≤ s.size := by omega
        clear hp hr hls hmm HAL
        go_wp2_with fail
        refine HR.out.mono ?_
        rintro e w1 ⟨vt, vp, rfl, hl, nt, np, hb⟩
        have one := hl.one
        have hn := Blk.new w1 50 (recCells .nil (.slice none 0 0) (.slice none 0 0))
        clear HR
        have N3 := hn.setRow (recCells r vt vp)
        have hb3 : Below w1.heap.size w1 ((w1.alloc (.cells (recCells .nil (.slice none 0 0) (.slice none 0 0)) 50)).setRow w1.heap.size (recCells r vt vp)) := below_setRow ((Below.refl _ _).alloc (Nat.le_refl _) _) (Nat.le_refl _) _
        have HO3 := Lib.hid ((HO.out.keep hb).keep hb3)
        have HL3 := Lib.hid (hl.keep hb3)
        have HF2 : Hid (FreshQ w.heap.size (q ++ [⟨k, r, vt, vp⟩])) := HFR.out.snoc (fun b hb => Nat.le_trans HB.out.size (nt b hb)) (fun b hb => Nat.le_trans HB.out.size (np b hb))
        have HAP := Lib.hid (New.apart HO.out (at_ := k) (r := r) nt np)
        have HB3 := Lib.hid (below2 (below2 HB.out hb) hb3)
        go_upto_region 7 with (refine wpList_store_row rfl 50 _ _ rfl w1.heap.size _ rfl rfl 50 _ hn (by kernel_rfl) rfl one ?_)
        clear hn hb3 hl nt np hb HO HB
        change Code.wp _ _ _ _ ((w1.alloc (.cells (recCells .nil (.slice none 0 0) (.slice none 0 0)) 50)).setRow w1.heap.size (recCells r vt vp))
        generalize ((w1.alloc (.cells (recCells .nil (.slice none 0 0) (.slice none 0 0)) 50)).setRow w1.heap.size (recCells r vt vp)) = w3 at *
        generalize w1.heap.size = x at *
        obtain ⟨i0, hi0, hz0, hz1, hz2⟩ := info_parts info_entry
        have HI := Lib.hid (And.intro hi0 (And.intro hz0 (And.intro hz1 hz2)))
        clear hi0 hz0 hz1 hz2
        obtain ⟨ta, tc, rfl⟩ := HL3.out.t.form
        obtain ⟨pa, pc, rfl⟩ := HL3.out.p.form
        unfold recCells at N3
        obtain ⟨hi0, hz0, hz1, hz2⟩ := id HI.out
        have B4 : Below w3.heap.size w3 (w3.alloc (.cells (Qe.cells ⟨k, r, .slice ta r.txns.length tc, .slice pa r.pages.length pc⟩).toArray 58)) := (Below.refl _ _).alloc (Nat.le_refl _) _
        have HO4 := Lib.hid (HO3.out.keep B4)
        have HL4 := Lib.hid (HL3.out.keep B4)
        have HB4 := Lib.hid (below2 HB3.out B4)
        have hq4 := HB4.out.size
        clear B4 HO3 HL3 HB3
        go_wp2_with (first
          | (refine wpList_load_row rfl 50 _ rfl x rfl 50 _ (0, 0) _ N3 Try.underlying50 rfl (by kernel_rfl) ?_)
          | (at_builtin; refine wpList_append_lies _ rfl (.tmp 23) (.tmp 27) 26 rfl w.heap.size 58 i0 entryZero 12 144 Try.underlying26 hi0 hz0 hz1 hz2 rfl (by decide) _ _ _ rfl HO4.out.own ⟨w3.heap.size, 0, none⟩ 1 1 (Qe.cells ⟨k, r, .slice ta r.txns.length tc, .slice pa r.pages.length pc⟩) rfl rfl (World.news_of_block (heap_alloc_new w3 _)) (by simp [Qe.cells, recCells, Value.oneCell']) (by omega) (by simp only [maxLen]; omega) (by omega) hq4 _ rfl ?_))
        intro g cap w5 hown hgrow hat hlt5
        have HO5 := Lib.hid (HO4.out.pushed HL4.out HAP.out hown hgrow (by rw [World.size_alloc]; exact hat))
        have HB5 := Lib.hid (show Below w.heap.size w w5 from HB4.out.trans ⟨hgrow.os, hgrow.tape, hgrow.output, hgrow.size, fun b hb => hgrow.block b (Nat.lt_of_lt_of_le hb hq4) fun e => by have := (HO4.out.own.lt b e.symm).1; omega⟩)
        clear hown hgrow hat HO4 HL4 HB4
        go_wp2
        go_roundw
        case rel => exact ⟨q ++ [⟨k, r, .slice ta r.txns.length tc, .slice pa r.pages.length pc⟩], m, l', rfl, hms, by simp; omega, by simpa using HO5.out, by simpa [Qe.ent] using HST.out, HB5.out, HF2.out⟩
        case measure => simp [intOf]; omega
    · obtain rfl : k = s.size := by omega
      have hdn : allS s = some (q.map Qe.ent) := HAL.out.done (by rw [HAL.out.2.1, ← size_bytes, List.drop_length])
      have HDN := Lib.hid hdn
      clear hdn
      go_wp2
      go_ret2
      exact ⟨_, q, by rw [HDN.out]; rfl, by rw [HDN.out]; rfl, HO.out, HB.out, HFR.out⟩
end Go.Proofs.Ytpcfhpffbogjmaa
