/- Package record: bytes that are laid behind one another. -/
import Derived.Test.YtpcfhpffbogjmaaRecM
import Derived.Lib.AppendStr
import Derived.Laws.Shifts
namespace Go.Proofs.Ytpcfhpffbogjmaa
open Go.RowKit

def bytesL (l : List UInt8) : List Value := l.map fun b => Value.int .u8 (b.toNat : Int)
theorem bytesL_app (a b : List UInt8) : bytesL (a ++ b) = bytesL a ++ bytesL b := by simp [bytesL]
theorem bytesL_len (a : List UInt8) : (bytesL a).length = a.length := by simp [bytesL]
theorem bytesL_one (a : List UInt8) : ∀ u ∈ bytesL a, u.oneCell' = true := by
  intro u hu; obtain ⟨s, _, rfl⟩ := List.mem_map.1 hu; rfl
/-- A slice of bytes of one's own, made behind w0 at B or above; nothing below B was written. -/
structure Buf (w0 w : World) (v : Value) (l : List UInt8) : Prop where
  own : w.ownsRow w0.heap.size 5 1 v l.length (bytesL l)
  below : Below w0.heap.size w0 w
namespace Buf
variable {w0 w w' : World} {v v' : Value} {l c : List UInt8}
theorem le (h : Buf w0 w v l) : w0.heap.size ≤ w.heap.size := h.below.size
theorem more (h : Buf w0 w v l) (hb : Below w.heap.size w w') : Buf w0 w' v l := ⟨own_below h.own hb, h.below.trans (hb.mono h.le)⟩
theorem grow {m : Nat} {cells : List Value} (h : Buf w0 w v l) (ho : w'.ownsRow w0.heap.size 5 1 v' (l.length + m) (bytesL l ++ cells)) (hg : w.grownBy w' v.ownBlock) (hc : cells = bytesL c) : Buf w0 w' v' (l ++ c) := by
  have hm : (bytesL l ++ cells).length = (l.length + m) * 1 := ho.1
  subst hc
  rw [List.length_append, bytesL_len, bytesL_len] at hm
  refine ⟨?_, ⟨hg.os.trans h.below.os, hg.tape.trans h.below.tape, hg.output.trans h.below.output, Nat.le_trans h.below.size hg.size, fun b hb => ?_⟩⟩
  · rw [List.length_append, bytesL_app, show l.length + c.length = l.length + m from by omega]
    exact ho
  · exact (hg.block b (Nat.lt_of_lt_of_le hb h.le) fun e => by have := (h.own.lt b e.symm).1; omega).trans (h.below.block b hb)
/-- What an append leaves alone. -/
theorem blk {g t : Nat} {cs : Array Value} (h : Buf w0 w v l) (ho : Only (fun b => v.ownBlock = some b) w w') (hb : Blk w g t cs) (ht : 5 ≠ t) : Blk w' g t cs := ho.blk hb (own_blk h.own hb ht)
theorem start (w0 : World) : Buf w0 w0 (.slice none 0 0) [] := ⟨World.ownsRow_nil _ _ _ _, Below.refl _ _⟩
end Buf
theorem only_grown {w w1 w' : World} {v : Value} (hb : Below w.heap.size w w1) (hg : w1.grownBy w' v.ownBlock) : Only (fun b => v.ownBlock = some b) w w' :=
  (Only.ofBelow hb).grown hg fun _ h => .inl h
theorem info_byte : (Try.prog.info? 5).map (fun i => (i.zero, i.size, i.bytes)) = some (some (.int .u8 0), 1, 1) := by kernel_rfl
theorem beI_cells (n : Int) : [Value.int .u8 (n / 16777216 % 256), .int .u8 (n / 65536 % 256), .int .u8 (n / 256 % 256), .int .u8 (n % 256)] = bytesL (beI n) := by
  simp only [bytesL, beI, be4, List.map_cons, List.map_nil, List.cons.injEq, Value.int.injEq, true_and, and_true]
  refine ⟨?_, ?_, ?_, ?_⟩ <;> simp <;> omega

set_option maxRecDepth 100000 in
set_option maxHeartbeats 2000000 in
theorem appendNumber_any {w0 w : World} {v : Value} {l : List UInt8} (h : Buf w0 w v l) (hl : l.length ≤ 100000) (n : Int) :
    Calls Try.prog 61 #[v, .int .i64 n] w fun e w' => ∃ v', e = .returned v' ∧ Buf w0 w' v' (l ++ beI n) ∧ Only (fun b => v.ownBlock = some b) w w' := by
  obtain ⟨i0, hi, he⟩ := Option.map_eq_some_iff.1 info_byte
  simp only [Prod.mk.injEq] at he
  obtain ⟨hz0, hz1, hz2⟩ := he
  have H := Lib.hid h
  have hown := own_below h.own ((Below.refl w.heap.size w).alloc (Nat.le_refl _) (.cells #[.int .u8 (n / 16777216 % 256), .int .u8 (n / 65536 % 256), .int .u8 (n / 256 % 256), .int .u8 (n % 256)] 5))
  have hB := h.le
  clear h
  go_enter Try.func61, Try.ntmps61
  go_wp2_with (at_builtin; refine wpList_append_own _ rfl (.tmp 5) (.tmp 17) 51 rfl w0.heap.size 5 i0 (.int .u8 0) 1 1 Try.underlying51 hi hz0 hz1 hz2 rfl (by decide) v _ _ rfl hown ⟨w.heap.size, 0, none⟩ 4 4 [.int .u8 (n / 16777216 % 256), .int .u8 (n / 65536 % 256), .int .u8 (n / 256 % 256), .int .u8 (n % 256)] rfl rfl (World.news_of_block (heap_alloc_new w _)) (by simp [Value.oneCell']) (by unfold maxLen; omega) (by omega) (by simp; omega) ?_)
  intro v' w3 hown3 hgrow _
  have HB := Lib.hid (And.intro ((H.out.more ((Below.refl _ _).alloc (Nat.le_refl _) _)).grow hown3 hgrow (beI_cells n)) (only_grown ((Below.refl _ _).alloc (Nat.le_refl _) _) hgrow))
  clear hown hown3 hgrow
  go_wp2
  go_ret
  exact ⟨_, rfl, HB.out⟩
theorem beLow_cells (n : Int) : [Value.int .u8 (n % 256)] = bytesL [lowI n] := by
  simp [bytesL, lowI]
  omega
theorem byte_cells (n : Int) (h : 0 ≤ n ∧ n ≤ 255) : [Value.int .u8 n] = bytesL [lowI n] := by
  rw [← beLow_cells, show n % 256 = n from by omega]
theorem flat3_snoc (xs : List Row3) (x : Row3) : (xs ++ [x]).flatMap enc3 = xs.flatMap enc3 ++ enc3 x := by simp
theorem flat2_snoc (xs : List Row2) (x : Row2) : (xs ++ [x]).flatMap enc2 = xs.flatMap enc2 ++ enc2 x := by simp
theorem flat3_len (xs : List Row3) : (xs.flatMap enc3).length = xs.length * 12 := by
  induction xs with
  | nil => rfl
  | cons x xs ih => simp [ih, enc3, beI_len]; omega
theorem flat2_len (xs : List Row2) : (xs.flatMap enc2).length = xs.length * 5 := by
  induction xs with
  | nil => rfl
  | cons x xs ih => simp [ih, enc2, beI_len]; omega
theorem take3_snoc (l : List Row3) (k : Nat) (h : k < l.length) : (l.take (k + 1)).flatMap enc3 = (l.take k).flatMap enc3 ++ (beI l[k].1 ++ beI l[k].2.1 ++ beI l[k].2.2) := by
  rw [List.take_succ_eq_append_getElem h, flat3_snoc]; rfl
theorem take2_snoc (l : List Row2) (k : Nat) (h : k < l.length) : (l.take (k + 1)).flatMap enc2 = (l.take k).flatMap enc2 ++ ([lowI l[k].1] ++ beI l[k].2) := by
  rw [List.take_succ_eq_append_getElem h, flat2_snoc]; rfl

/-- Up to the pages. -/
def lay' (l : List UInt8) (r : Rc) : List UInt8 := l ++ beI r.beg ++ [lowI r.txns.length] ++ r.txns.flatMap enc3 ++ [lowI r.pages.length]
set_option maxRecDepth 100000 in
set_option maxHeartbeats 8000000 in
theorem appendTables_any {w0 w : World} {v vt vp : Value} {l : List UInt8} {r : Rc} (h : Buf w0 w v l) (hl : l.length ≤ 1000) (hr : Lists w0 r vt vp) (h3 : r.txns.length ≤ 50) (h2 : r.pages.length ≤ 50) :
    Calls Try.prog 62 #[v, recV r vt vp] w fun e w' => ∃ v', e = .returned v' ∧ Buf w0 w' v' (l ++ encTab r) := by
  obtain ⟨i0, hi, he⟩ := Option.map_eq_some_iff.1 info_byte
  simp only [Prod.mk.injEq] at he
  obtain ⟨hz0, hz1, hz2⟩ := he
  have II := Lib.hid (show _ ∧ _ ∧ _ ∧ _ from ⟨hi, hz0, hz1, hz2⟩)
  clear hi hz0 hz1 hz2
  have H := Lib.hid h
  have HR := Lib.hid hr
  obtain ⟨ta, tc, hvt⟩ := hr.t.form
  obtain ⟨pa, pc, hvp⟩ := hr.p.form
  subst hvt hvp
  have B0 := Lib.hid (Blk.new w 50 (recCells r (.slice ta r.txns.length tc) (.slice pa r.pages.length pc)))
  have hb0 : Below w.heap.size w (w.alloc (.cells (recCells r (.slice ta r.txns.length tc) (.slice pa r.pages.length pc)) 50)) := (Below.refl _ _).alloc (Nat.le_refl _) _
  have H1 := Lib.hid (h.more hb0)
  clear h hr
  clear hb0
  unfold recV recCells
  go_enter Try.func62, Try.ntmps62
  go_wp2_with fail
  refine (appendNumber_any H1.out (by omega) r.beg).mono ?_
  rintro e w1 ⟨v1, rfl, hb1, ho1⟩
  have bx := H1.out.blk ho1 B0.out (by decide)
  have BX := Lib.hid bx
  have c9 := bx.cell 9
  have c10 := bx.cell 10
  simp [recCells] at c9 c10
  have H2 := Lib.hid hb1
  have hl2 : (l ++ beI r.beg).length ≤ 1004 := by rw [List.length_append, beI_len]; omega
  clear bx hb1 ho1 H1 B0
  generalize hl1 : l ++ beI r.beg = l1 at *
  obtain ⟨hi, hz0, hz1, hz2⟩ := id II.out
  have hown := own_below H2.out.own ((Below.refl w1.heap.size w1).alloc (Nat.le_refl _) (.cells #[.int .u8 (r.txns.length : Int)] 5))
  have hle := H2.out.le
  go_wp2_with (at_builtin; refine wpList_append_own _ rfl (.tmp 13) (.tmp 18) 51 rfl w0.heap.size 5 i0 (.int .u8 0) 1 1 Try.underlying51 hi hz0 hz1 hz2 rfl (by decide) v1 _ _ rfl hown ⟨w1.heap.size, 0, none⟩ 1 1 [.int .u8 (r.txns.length : Int)] rfl rfl (World.news_of_block (heap_alloc_new w1 _)) (by simp [Value.oneCell']) (by unfold maxLen; omega) (by omega) (by simp; omega) ?_)
  intro v2 w2 hown2 hgrow _
  have hb1 : Below w1.heap.size w1 (w1.alloc (.cells #[.int .u8 (r.txns.length : Int)] 5)) := (Below.refl _ _).alloc (Nat.le_refl _) _
  have ho2 := only_grown hb1 hgrow
  have bx := H2.out.blk ho2 BX.out (by decide)
  have H3 := Lib.hid ((H2.out.more hb1).grow hown2 hgrow (byte_cells _ (by omega)))
  have BX2 := Lib.hid bx
  have c9 := bx.cell 9
  have c10 := bx.cell 10
  simp [recCells] at c9 c10
  have hl3 : (l1 ++ [lowI r.txns.length]).length ≤ 1005 := by rw [List.length_append]; simp; omega
  have E1 := Lib.hid hl1
  clear hown hown2 hgrow hb1 ho2 H2 BX hl2 hl1 bx
  generalize hl2 : l1 ++ [lowI r.txns.length] = l2 at *
  have E2 := Lib.hid hl2
  clear hl2
  go_wp2_with fail
  go_loopw [0, 23] (fun vb vk wr => ∃ (k : Nat) (l' : List UInt8), k ≤ r.txns.length ∧ vk = .int .i64 k ∧ l' = l2 ++ (r.txns.take k).flatMap enc3 ∧ Buf w0 wr vb l' ∧ Blk wr w.heap.size 50 (recCells r (.slice ta r.txns.length tc) (.slice pa r.pages.length pc))) (fun _ vk _ => r.txns.length - (intOf vk).toNat)
  case atStart => exact ⟨0, l2, Nat.zero_le _, rfl, by simp, H3.out, BX2.out⟩
  case round =>
    obtain ⟨k, l', hk, rfl, hl', hb, hx⟩ := hrel
    have HB := Lib.hid hb
    have HX := Lib.hid hx
    have hlen : l'.length ≤ 1605 := by rw [hl', List.length_append, flat3_len, List.length_take]; omega
    have EL := Lib.hid hl'
    clear hb hx hl' H3 BX2 c9 c10
    by_cases hlt : k < r.txns.length
    · have hne : r.txns ≠ [] := fun e => by rw [e] at hlt; simp at hlt
      obtain ⟨b, off, cap, hv, hc1, hc2, hbl, hcells⟩ := HR.out.t.at3 hne
      simp only [Value.slice.injEq] at hv
      obtain ⟨rfl, _, rfl⟩ := hv
      obtain ⟨d0, d1, d2⟩ := hcells k hlt
      have hk' := fun x => HB.out.below.cell (p := ⟨b, x, none⟩) hbl
      replace d0 := (hk' _).trans d0
      replace d1 := (hk' _).trans d1
      replace d2 := (hk' _).trans d2
      have ES := Lib.hid (take3_snoc r.txns k hlt)
      have hnl : (r.txns.length : Int) ≤ 50 := by omega
      generalize r.txns[k].1 = x1 at *
      generalize r.txns[k].2.1 = x2 at *
      generalize r.txns[k].2.2 = x3 at *
      clear hcells hk' hne
      have hba : Below wr.heap.size wr (wr.alloc (.cells #[.int .i64 x1, .int .i64 x2, .int .i64 x3] 91)) := (Below.refl _ _).alloc (Nat.le_refl _) _
      have Q0 := Lib.hid (Blk.new wr 91 #[.int .i64 x1, .int .i64 x2, .int .i64 x3])
      have HB1 := Lib.hid (HB.out.more hba)
      have HX1 := Lib.hid (HX.out.keep hba HX.out.lt)
      clear hba HB HX
      go_wp2_with fail
      generalize wr.alloc (.cells #[.int .i64 x1, .int .i64 x2, .int .i64 x3] 91) = w3 at *
      generalize wr.heap.size = y at *
      clear d0 d1 d2
      refine (appendNumber_any HB1.out (by omega) x1).mono ?_
      rintro e w4 ⟨v4, rfl, hb4, ho4⟩
      have HB2 := Lib.hid hb4
      have HX2 := Lib.hid (HB1.out.blk ho4 HX1.out (by decide))
      have q := HB1.out.blk ho4 Q0.out (by decide)
      have d1 := q.cell 1
      simp at d1
      have Q1 := Lib.hid q
      have hlen4 : (l' ++ beI x1).length ≤ 1609 := by rw [List.length_append, beI_len]; omega
      clear hb4 ho4 q HB1 HX1 Q0
      go_wp2_with fail
      refine (appendNumber_any HB2.out (by omega) x2).mono ?_
      rintro e w5 ⟨v5, rfl, hb5, ho5⟩
      have HB3 := Lib.hid hb5
      have HX3 := Lib.hid (HB2.out.blk ho5 HX2.out (by decide))
      have q := HB2.out.blk ho5 Q1.out (by decide)
      have d2 := q.cell 2
      simp at d2
      have hlen5 : (l' ++ beI x1 ++ beI x2).length ≤ 1613 := by rw [List.length_append, beI_len]; omega
      clear hb5 ho5 q HB2 HX2 Q1 d1
      go_wp2_with fail
      refine (appendNumber_any HB3.out (by omega) x3).mono ?_
      rintro e w6 ⟨v6, rfl, hb6, ho6⟩
      have HB4 := Lib.hid hb6
      have HX4 := Lib.hid (HB3.out.blk ho6 HX3.out (by decide))
      clear hb6 ho6 HB3 HX3 d2
      go_wp2_with fail
      go_roundw
      case rel => exact ⟨k + 1, _, by omega, by go_num, by rw [EL.out, ES.out]; simp only [List.append_assoc], HB4.out, HX4.out⟩
      case measure => simp [intOf]; omega
    · obtain rfl : k = r.txns.length := by omega
      rw [List.take_length] at EL
      have c10 := HX.out.cell 10
      simp [recCells] at c10
      have hown := own_below HB.out.own ((Below.refl wr.heap.size wr).alloc (Nat.le_refl _) (.cells #[.int .u8 (r.pages.length : Int)] 5))
      have hle := HB.out.le
      generalize u0 = ub at *
      go_wp2_with (at_builtin; refine wpList_append_own _ rfl (.tmp 40) (.tmp 45) 51 rfl w0.heap.size 5 i0 (.int .u8 0) 1 1 Try.underlying51 hi hz0 hz1 hz2 rfl (by decide) ub _ _ rfl hown ⟨wr.heap.size, 0, none⟩ 1 1 [.int .u8 (r.pages.length : Int)] rfl rfl (World.news_of_block (heap_alloc_new wr _)) (by simp [Value.oneCell']) (by unfold maxLen; omega) (by omega) (by simp; omega) ?_)
      intro v3 w3 hown3 hgrow _
      have hb1 : Below wr.heap.size wr (wr.alloc (.cells #[.int .u8 (r.pages.length : Int)] 5)) := (Below.refl _ _).alloc (Nat.le_refl _) _
      have bx := HB.out.blk (only_grown hb1 hgrow) HX.out (by decide)
      have H4 := Lib.hid ((HB.out.more hb1).grow hown3 hgrow (byte_cells _ (by omega)))
      have BX3 := Lib.hid bx
      have c10 := bx.cell 10
      simp [recCells] at c10
      have hl4 : (l' ++ [lowI r.pages.length]).length ≤ 1606 := by rw [List.length_append]; simp; omega
      clear hown hown3 hgrow hb1 bx HB HX
      generalize hl5 : l' ++ [lowI r.pages.length] = l5 at *
      have E5 := Lib.hid hl5
      clear hl5
      go_wp2_with fail
      have EL2 : Hid (lay' l r = l5) := by
        show lay' l r = l5
        rw [← E5.out, EL.out, ← E2.out, ← E1.out]
        simp [lay']
      clear EL E5 E2 E1 c9 c10
      go_loopw [0, 50] (fun vb vk wr => ∃ (k : Nat) (l' : List UInt8), k ≤ r.pages.length ∧ vk = .int .i64 k ∧ l' = l5 ++ (r.pages.take k).flatMap enc2 ∧ Buf w0 wr vb l') (fun _ vk _ => r.pages.length - (intOf vk).toNat)
      case atStart => exact ⟨0, l5, Nat.zero_le _, rfl, by simp, H4.out⟩
      case round =>
        obtain ⟨k, l6, hk, rfl, hl', hb⟩ := hrel
        have HB := Lib.hid hb
        have hlen6 : l6.length ≤ 1856 := by rw [hl', List.length_append, flat2_len, List.length_take]; omega
        have EL := Lib.hid hl'
        clear hb hl' H4 BX3
        by_cases hlt : k < r.pages.length
        · have hne : r.pages ≠ [] := fun e => by rw [e] at hlt; simp at hlt
          obtain ⟨b, off, cap, hv, hc1, hc2, hbl, hcells⟩ := HR.out.p.at2 hne
          simp only [Value.slice.injEq] at hv
          obtain ⟨rfl, _, rfl⟩ := hv
          obtain ⟨d0, d1⟩ := hcells k hlt
          have hk' := fun x => HB.out.below.cell (p := ⟨b, x, none⟩) hbl
          replace d0 := (hk' _).trans d0
          replace d1 := (hk' _).trans d1
          have ES := Lib.hid (take2_snoc r.pages k hlt)
          have hnl : (r.pages.length : Int) ≤ 50 := by omega
          generalize r.pages[k].1 = x1 at *
          generalize r.pages[k].2 = x2 at *
          clear hcells hk' hne
          have hba : Below wr.heap.size wr (wr.alloc (.cells #[.int .i64 x1, .int .i64 x2] 94)) := (Below.refl _ _).alloc (Nat.le_refl _) _
          have Q0 := Lib.hid (Blk.new wr 94 #[.int .i64 x1, .int .i64 x2])
          have HB1 := Lib.hid (HB.out.more hba)
          clear hba HB
          have hown := own_below HB1.out.own ((Below.refl _ _).alloc (Nat.le_refl _) (.cells #[.int .u8 (x1 % 256)] 5))
          have hle := HB1.out.le
          have hnb : ((wr.alloc (.cells #[.int .i64 x1, .int .i64 x2] 94)).alloc (.cells #[.int .u8 (x1 % 256)] 5)).heap[wr.heap.size + 1]? = some (.cells #[.int .u8 (x1 % 256)] 5 (0, 0)) := by
            have := heap_alloc_new (wr.alloc (.cells #[.int .i64 x1, .int .i64 x2] 94)) (.cells #[.int .u8 (x1 % 256)] 5)
            rwa [World.size_alloc] at this
          have HNB := Lib.hid hnb
          clear hnb
          generalize u0 = ub at *
          go_wp2_with (at_builtin; refine wpList_append_own _ rfl (.tmp 54) (.tmp 58) 51 rfl w0.heap.size 5 i0 (.int .u8 0) 1 1 Try.underlying51 hi hz0 hz1 hz2 rfl (by decide) ub _ _ rfl hown ⟨wr.heap.size + 1, 0, none⟩ 1 1 [.int .u8 (x1 % 256)] rfl rfl (World.news_of_block HNB.out) (by simp [Value.oneCell']) (by unfold maxLen; omega) (by omega) (by simp at hle ⊢; omega) ?_)
          intro v7 w7 hown7 hgrow _
          have hb1 := (Below.refl (wr.alloc (.cells #[.int .i64 x1, .int .i64 x2] 94)).heap.size (wr.alloc (.cells #[.int .i64 x1, .int .i64 x2] 94))).alloc (Nat.le_refl _) (.cells #[.int .u8 (x1 % 256)] 5)
          have q := HB1.out.blk (only_grown hb1 hgrow) Q0.out (by decide)
          have HB2 := Lib.hid ((HB1.out.more hb1).grow hown7 hgrow (beLow_cells _))
          have d3 := q.cell 1
          simp at d3
          have hlen7 : (l6 ++ [lowI x1]).length ≤ 1857 := by rw [List.length_append]; simp; omega
          clear hown7 hgrow hb1 q hown HB1 Q0 HNB d0 d1
          go_wp2_with fail
          refine (appendNumber_any HB2.out (by omega) x2).mono ?_
          rintro e w8 ⟨v8, rfl, hb8, ho8⟩
          have HB3 := Lib.hid hb8
          clear hb8 ho8 HB2 d3
          go_wp2_with fail
          go_roundw
          case rel => exact ⟨k + 1, _, by omega, by go_num, by rw [EL.out, ES.out]; simp only [List.append_assoc], HB3.out⟩
          case measure => simp [intOf]; omega
        · obtain rfl : k = r.pages.length := by omega
          rw [List.take_length] at EL
          have EF : Hid (l ++ encTab r = l6) := by
            show l ++ encTab r = l6
            rw [EL.out, ← EL2.out]
            simp [lay', encTab]
          clear EL EL2
          go_wp2
          go_ret
          exact ⟨_, rfl, by rw [EF.out]; exact HB.out⟩
end Go.Proofs.Ytpcfhpffbogjmaa
