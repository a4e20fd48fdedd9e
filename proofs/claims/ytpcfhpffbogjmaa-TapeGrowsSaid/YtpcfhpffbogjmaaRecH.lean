/- Package record: a record's bytes are laid. -/
import Derived.Test.YtpcfhpffbogjmaaRecG
namespace Go.Proofs.Ytpcfhpffbogjmaa
open Go.RowKit

theorem Buf.conv {w0 w : World} {v : Value} {l : List UInt8} (h : Buf w0 w v l) (hl : l ≠ []) : ∃ g cap, v = .slice (some ⟨g, 0, none⟩) l.length cap ∧ (convert 51 9 v).run Try.prog w = .ok (.string ⟨l.toArray⟩) w := by
  obtain ⟨g, cap, rfl, _, _⟩ := own_form h.own (List.length_pos_iff.2 hl)
  exact ⟨g, cap, rfl, conv_owned l (by rw [show (bytesV l).toList = bytesL l from by simp [bytesV, bytesL]]; exact h.own) _ _ Try.underlying51 Try.underlying5 Try.underlying9⟩
theorem Buf.first (w0 : World) (n : Int) : Buf w0 (w0.alloc (.cells #[.int .u8 (n % 256)] 5)) (.slice (some ⟨w0.heap.size, 0, none⟩) 1 1) [lowI n] := by
  refine ⟨?_, (Below.refl _ _).alloc (Nat.le_refl _) _⟩
  refine ⟨rfl, .inr ⟨w0.heap.size, 1, #[.int .u8 (n % 256)], rfl, Nat.le_refl _, heap_alloc_new w0 _, Nat.le_refl _, by decide, rfl, ?_⟩⟩
  exact beLow_cells n

theorem three_cells (a b c : Int) : [Value.int .u8 (a % 256), .int .u8 (b % 256), .int .u8 (c % 256)] = bytesL [lowI a, lowI b, lowI c] := by
  have h1 := beLow_cells a
  have h2 := beLow_cells b
  have h3 := beLow_cells c
  rw [show [lowI a, lowI b, lowI c] = [lowI a] ++ [lowI b] ++ [lowI c] from rfl, bytesL_app, bytesL_app, ← h1, ← h2, ← h3]
  rfl
theorem strCells_bytes (s : ByteArray) : Lib.strCells s = bytesL s.data.toList := rfl
section
variable {w : World} {vt vp : Value}
set_option maxRecDepth 100000 in
set_option maxHeartbeats 8000000 in
theorem lay_com {k t p pg o x bg : Int} {bf af : ByteArray} {ts : List Row3} {ps : List Row2} (k4 : k ≤ 4) (k1 : k ≠ 1) (k2 : k ≠ 2) (hl : Lists w ⟨k, t, pg, o, p, x, bg, bf, af, ts, ps⟩ vt vp) (hf : Fit ⟨k, t, pg, o, p, x, bg, bf, af, ts, ps⟩) (L : List UInt8) (hL : L = [lowI k] ++ beI t ++ beI p) :
    Calls Try.prog 46 #[recV ⟨k, t, pg, o, p, x, bg, bf, af, ts, ps⟩ vt vp] w fun e w' => e = .returned (.string ⟨L.toArray⟩) ∧ Below w.heap.size w w' := by
  obtain ⟨i0, hi, he⟩ := Option.map_eq_some_iff.1 info_byte
  simp only [Prod.mk.injEq] at he
  obtain ⟨hz0, hz1, hz2⟩ := he
  have LL := Lib.hid hL
  have hne : L ≠ [] := by rw [hL]; simp
  obtain ⟨f1, f2, f3, f4⟩ := hf
  simp only at f1 f2 f3 f4
  have hb0 : Below w.heap.size w (w.alloc (.cells (recCells ⟨k, t, pg, o, p, x, bg, bf, af, ts, ps⟩ vt vp) 50)) := (Below.refl _ _).alloc (Nat.le_refl _) _
  have B0 := Lib.hid (Blk.new w 50 (recCells ⟨k, t, pg, o, p, x, bg, bf, af, ts, ps⟩ vt vp))
  have HL := Lib.hid (hl.keep hb0)
  have HB := Lib.hid hb0
  have H0 := Lib.hid (Buf.first (w.alloc (.cells (recCells ⟨k, t, pg, o, p, x, bg, bf, af, ts, ps⟩ vt vp) 50)) k)
  rw [World.size_alloc] at H0
  clear hL hl hb0
  unfold recV recCells
  go_enter Try.func46, Try.ntmps46
  have e1 : (k == 1) = false := by rw [beq_eq_false_iff_ne]; exact k1
  have e2 : (k == 2) = false := by rw [beq_eq_false_iff_ne]; exact k2
  have e6 : (k == 6) = false := by rw [beq_eq_false_iff_ne]; omega
  go_wp2_with fail
  refine (appendNumber_any H0.out (by first | omega | (simp; done)) t).mono ?_
  rintro e w1 ⟨v1, rfl, hb, _⟩
  have hl1 : ([lowI k] ++ beI t).length ≤ 5 := by rw [List.length_append, beI_len]; first | omega | exact Nat.le_refl _
  have H1 := Lib.hid hb
  clear hb H0 
  generalize hq : [lowI k] ++ beI t = l1 at *
  have Q1 := Lib.hid hq
  clear hq
  have bx := B0.out.keep H1.out.below B0.out.lt
  have c4 := bx.cell 4
  simp [recCells] at c4
  clear bx
  go_wp2_with fail
  refine (appendNumber_any H1.out (by first | omega | (simp; done)) p).mono ?_
  rintro e w2 ⟨v2, rfl, hb, _⟩
  have hl2 : (l1 ++ beI p).length ≤ 9 := by rw [List.length_append, beI_len]; first | omega | exact Nat.le_refl _
  have H2 := Lib.hid hb
  clear hb H1 c4
  generalize hq : l1 ++ beI p = l2 at *
  have Q2 := Lib.hid hq
  clear hq
  have bx := B0.out.keep H2.out.below B0.out.lt
  have c0 := bx.cell 0
  simp [recCells] at c0
  clear bx
  have hfin : Buf (w.alloc (.cells (recCells ⟨k, t, pg, o, p, x, bg, bf, af, ts, ps⟩ vt vp) 50)) w2 v2 L := by rw [LL.out]; exact H2.out
  obtain ⟨gg, cc, hv, hcv⟩ := hfin.conv hne
  subst hv
  have LB := Lib.hid (HB.out.trans (H2.out.below.mono HB.out.size))
  clear H2 hfin 
  go_wp2
  go_ret
  exact ⟨rfl, LB.out⟩
set_option maxRecDepth 100000 in
set_option maxHeartbeats 8000000 in
theorem lay_none {k t p pg o x bg : Int} {bf af : ByteArray} {ts : List Row3} {ps : List Row2} (k4 : 4 < k) (k6 : k ≠ 6) (k1 : k ≠ 1) (k2 : k ≠ 2) (hl : Lists w ⟨k, t, pg, o, p, x, bg, bf, af, ts, ps⟩ vt vp) (hf : Fit ⟨k, t, pg, o, p, x, bg, bf, af, ts, ps⟩) (L : List UInt8) (hL : L = [lowI k]) :
    Calls Try.prog 46 #[recV ⟨k, t, pg, o, p, x, bg, bf, af, ts, ps⟩ vt vp] w fun e w' => e = .returned (.string ⟨L.toArray⟩) ∧ Below w.heap.size w w' := by
  obtain ⟨i0, hi, he⟩ := Option.map_eq_some_iff.1 info_byte
  simp only [Prod.mk.injEq] at he
  obtain ⟨hz0, hz1, hz2⟩ := he
  have LL := Lib.hid hL
  have hne : L ≠ [] := by rw [hL]; simp
  obtain ⟨f1, f2, f3, f4⟩ := hf
  simp only at f1 f2 f3 f4
  have hb0 : Below w.heap.size w (w.alloc (.cells (recCells ⟨k, t, pg, o, p, x, bg, bf, af, ts, ps⟩ vt vp) 50)) := (Below.refl _ _).alloc (Nat.le_refl _) _
  have B0 := Lib.hid (Blk.new w 50 (recCells ⟨k, t, pg, o, p, x, bg, bf, af, ts, ps⟩ vt vp))
  have HL := Lib.hid (hl.keep hb0)
  have HB := Lib.hid hb0
  have H0 := Lib.hid (Buf.first (w.alloc (.cells (recCells ⟨k, t, pg, o, p, x, bg, bf, af, ts, ps⟩ vt vp) 50)) k)
  rw [World.size_alloc] at H0
  clear hL hl hb0
  unfold recV recCells
  go_enter Try.func46, Try.ntmps46
  have e1 : (k == 1) = false := by rw [beq_eq_false_iff_ne]; exact k1
  have e2 : (k == 2) = false := by rw [beq_eq_false_iff_ne]; exact k2
  have e6 : (k == 6) = false := by rw [beq_eq_false_iff_ne]; exact k6
  have hfin := H0.out
  rw [← LL.out] at hfin
  obtain ⟨gg, cc, hv, hcv⟩ := hfin.conv hne
  simp only [Value.slice.injEq, Option.some.injEq, Addr.mk.injEq, and_true] at hv
  obtain ⟨rfl, h1, rfl⟩ := hv
  clear h1
  unfold recCells at hcv
  have LB := Lib.hid (HB.out.trans (H0.out.below.mono HB.out.size))
  have k4' : ¬ k ≤ 4 := by omega
  clear H0 hfin
  go_wp2
  go_ret
  exact ⟨rfl, LB.out⟩
set_option maxRecDepth 100000 in
set_option maxHeartbeats 8000000 in
theorem lay_tab {k t p pg o x bg : Int} {bf af : ByteArray} {ts : List Row3} {ps : List Row2} (k6 : k = 6) (hl : Lists w ⟨k, t, pg, o, p, x, bg, bf, af, ts, ps⟩ vt vp) (hf : Fit ⟨k, t, pg, o, p, x, bg, bf, af, ts, ps⟩) (L : List UInt8) (hL : L = [lowI k] ++ encTab ⟨k, t, pg, o, p, x, bg, bf, af, ts, ps⟩) :
    Calls Try.prog 46 #[recV ⟨k, t, pg, o, p, x, bg, bf, af, ts, ps⟩ vt vp] w fun e w' => e = .returned (.string ⟨L.toArray⟩) ∧ Below w.heap.size w w' := by
  subst k6
  obtain ⟨i0, hi, he⟩ := Option.map_eq_some_iff.1 info_byte
  simp only [Prod.mk.injEq] at he
  obtain ⟨hz0, hz1, hz2⟩ := he
  have LL := Lib.hid hL
  have hne : L ≠ [] := by rw [hL]; simp
  obtain ⟨f1, f2, f3, f4⟩ := hf
  simp only at f1 f2 f3 f4
  have hb0 : Below w.heap.size w (w.alloc (.cells (recCells ⟨6, t, pg, o, p, x, bg, bf, af, ts, ps⟩ vt vp) 50)) := (Below.refl _ _).alloc (Nat.le_refl _) _
  have B0 := Lib.hid (Blk.new w 50 (recCells ⟨6, t, pg, o, p, x, bg, bf, af, ts, ps⟩ vt vp))
  have HL := Lib.hid (hl.keep hb0)
  have HB := Lib.hid hb0
  have H0 := Lib.hid (Buf.first (w.alloc (.cells (recCells ⟨6, t, pg, o, p, x, bg, bf, af, ts, ps⟩ vt vp) 50)) 6)
  rw [World.size_alloc] at H0
  clear hL hl hb0
  unfold recV recCells
  go_enter Try.func46, Try.ntmps46
  go_wp2_with fail
  refine (appendTables_any H0.out (by simp) HL.out f3 f4).mono ?_
  rintro e w1 ⟨v1, rfl, hb⟩
  have H1 := Lib.hid hb
  clear hb H0
  have hfin : Buf (w.alloc (.cells (recCells ⟨6, t, pg, o, p, x, bg, bf, af, ts, ps⟩ vt vp) 50)) w1 v1 L := by rw [LL.out]; exact H1.out
  obtain ⟨gg, cc, hv, hcv⟩ := hfin.conv hne
  subst hv
  have LB := Lib.hid (HB.out.trans (H1.out.below.mono HB.out.size))
  clear H1 hfin 
  go_wp2
  go_ret
  exact ⟨rfl, LB.out⟩
set_option maxRecDepth 100000 in
set_option maxHeartbeats 8000000 in
theorem lay_upd {k t p pg o x bg : Int} {bf af : ByteArray} {ts : List Row3} {ps : List Row2} (k1 : k = 1) (hl : Lists w ⟨k, t, pg, o, p, x, bg, bf, af, ts, ps⟩ vt vp) (hf : Fit ⟨k, t, pg, o, p, x, bg, bf, af, ts, ps⟩) (L : List UInt8) (hL : L = [lowI k] ++ beI t ++ beI p ++ [lowI pg, lowI o, lowI af.size] ++ bf.data.toList ++ af.data.toList) :
    Calls Try.prog 46 #[recV ⟨k, t, pg, o, p, x, bg, bf, af, ts, ps⟩ vt vp] w fun e w' => e = .returned (.string ⟨L.toArray⟩) ∧ Below w.heap.size w w' := by
  subst k1
  obtain ⟨i0, hi, he⟩ := Option.map_eq_some_iff.1 info_byte
  simp only [Prod.mk.injEq] at he
  obtain ⟨hz0, hz1, hz2⟩ := he
  have LL := Lib.hid hL
  have hne : L ≠ [] := by rw [hL]; simp
  obtain ⟨f1, f2, f3, f4⟩ := hf
  simp only at f1 f2 f3 f4
  have hb0 : Below w.heap.size w (w.alloc (.cells (recCells ⟨1, t, pg, o, p, x, bg, bf, af, ts, ps⟩ vt vp) 50)) := (Below.refl _ _).alloc (Nat.le_refl _) _
  have B0 := Lib.hid (Blk.new w 50 (recCells ⟨1, t, pg, o, p, x, bg, bf, af, ts, ps⟩ vt vp))
  have HL := Lib.hid (hl.keep hb0)
  have HB := Lib.hid hb0
  have H0 := Lib.hid (Buf.first (w.alloc (.cells (recCells ⟨1, t, pg, o, p, x, bg, bf, af, ts, ps⟩ vt vp) 50)) 1)
  rw [World.size_alloc] at H0
  clear hL hl hb0
  unfold recV recCells
  go_enter Try.func46, Try.ntmps46
  go_wp2_with fail
  refine (appendNumber_any H0.out (by first | omega | (simp; done)) t).mono ?_
  rintro e w1 ⟨v1, rfl, hb, _⟩
  have hl1 : ([lowI 1] ++ beI t).length ≤ 5 := by rw [List.length_append, beI_len]; first | omega | exact Nat.le_refl _
  have H1 := Lib.hid hb
  clear hb H0 
  generalize hq : [lowI 1] ++ beI t = l1 at *
  have Q1 := Lib.hid hq
  clear hq
  have bx := B0.out.keep H1.out.below B0.out.lt
  have c4 := bx.cell 4
  simp [recCells] at c4
  clear bx
  go_wp2_with fail
  refine (appendNumber_any H1.out (by first | omega | (simp; done)) p).mono ?_
  rintro e w2 ⟨v2, rfl, hb, _⟩
  have hl2 : (l1 ++ beI p).length ≤ 9 := by rw [List.length_append, beI_len]; first | omega | exact Nat.le_refl _
  have H2 := Lib.hid hb
  clear hb H1 c4
  generalize hq : l1 ++ beI p = l2 at *
  have Q2 := Lib.hid hq
  clear hq
  have bx := B0.out.keep H2.out.below B0.out.lt
  have c0 := bx.cell 0
  have c2 := bx.cell 2
  have c3 := bx.cell 3
  have c8 := bx.cell 8
  simp [recCells] at c0 c2 c3 c8
  clear bx
  have hown := own_below H2.out.own ((Below.refl w2.heap.size w2).alloc (Nat.le_refl _) (.cells #[.int .u8 (pg % 256), .int .u8 (o % 256), .int .u8 ((af.size : Int) % 256)] 5))
  have hle := H2.out.le
  rw [World.size_alloc] at hle
  go_wp2_with (at_builtin; refine wpList_append_own _ rfl (.tmp 31) (.tmp 42) 51 rfl (w.alloc (.cells (recCells ⟨1, t, pg, o, p, x, bg, bf, af, ts, ps⟩ vt vp) 50)).heap.size 5 i0 (.int .u8 0) 1 1 Try.underlying51 hi hz0 hz1 hz2 rfl (by decide) v2 _ _ rfl hown ⟨w2.heap.size, 0, none⟩ 3 3 [.int .u8 (pg % 256), .int .u8 (o % 256), .int .u8 ((af.size : Int) % 256)] rfl rfl (World.news_of_block (heap_alloc_new w2 _)) (by simp [Value.oneCell']) (by unfold maxLen; omega) (by omega) (by simp; omega) ?_)
  intro v3 w3 hown3 hgrow _
  have hl3 : (l2 ++ [lowI pg, lowI o, lowI af.size]).length ≤ 12 := by rw [List.length_append]; show _ + 3 ≤ _; omega
  have H3 := Lib.hid ((H2.out.more ((Below.refl _ _).alloc (Nat.le_refl _) _)).grow (m := 3) (by rw [World.size_alloc]; exact hown3) hgrow (three_cells pg o af.size))
  clear hown hown3 hgrow hle H2
  generalize hq : l2 ++ [lowI pg, lowI o, lowI af.size] = l3 at *
  have Q3 := Lib.hid hq
  clear hq
  have bx := B0.out.keep H3.out.below B0.out.lt
  have c7 := bx.cell 7
  simp [recCells] at c7
  clear bx
  have hown := H3.out.own
  have hle := H3.out.le
  rw [World.size_alloc] at hle
  go_wp2_with (at_builtin; refine Lib.wpList_append_own_string _ rfl (.tmp 44) (.tmp 46) 51 9 rfl (w.alloc (.cells (recCells ⟨1, t, pg, o, p, x, bg, bf, af, ts, ps⟩ vt vp) 50)).heap.size 5 i0 Try.underlying51 Try.underlying9 hi hz0 hz1 hz2 v3 _ _ rfl hown bf rfl (by unfold maxLen; omega) (by omega) (by simp; omega) ?_)
  intro v4 w4 hown4 hgrow _
  have hl4 : (l3 ++ bf.data.toList).length ≤ 400 := by rw [List.length_append, size_bytes]; omega
  have H4 := Lib.hid (H3.out.grow (m := bf.size) (by rw [World.size_alloc]; exact hown4) hgrow (strCells_bytes bf))
  clear hown hown4 hgrow hle H3
  generalize hq : l3 ++ bf.data.toList = l4 at *
  have Q4 := Lib.hid hq
  clear hq
  have bx := B0.out.keep H4.out.below B0.out.lt
  have c8 := bx.cell 8
  simp [recCells] at c8
  clear bx
  have hown := H4.out.own
  have hle := H4.out.le
  rw [World.size_alloc] at hle
  go_wp2_with (at_builtin; refine Lib.wpList_append_own_string _ rfl (.tmp 48) (.tmp 50) 51 9 rfl (w.alloc (.cells (recCells ⟨1, t, pg, o, p, x, bg, bf, af, ts, ps⟩ vt vp) 50)).heap.size 5 i0 Try.underlying51 Try.underlying9 hi hz0 hz1 hz2 v4 _ _ rfl hown af rfl (by unfold maxLen; omega) (by omega) (by simp; omega) ?_)
  intro v5 w5 hown5 hgrow _
  have hl5 : (l4 ++ af.data.toList).length ≤ 800 := by rw [List.length_append, size_bytes]; omega
  have H5 := Lib.hid (H4.out.grow (m := af.size) (by rw [World.size_alloc]; exact hown5) hgrow (strCells_bytes af))
  clear hown hown5 hgrow hle H4
  generalize hq : l4 ++ af.data.toList = l5 at *
  have Q5 := Lib.hid hq
  clear hq
  have hfin : Buf (w.alloc (.cells (recCells ⟨1, t, pg, o, p, x, bg, bf, af, ts, ps⟩ vt vp) 50)) w5 v5 L := by rw [LL.out]; exact H5.out
  obtain ⟨gg, cc, hv, hcv⟩ := hfin.conv hne
  subst hv
  have LB := Lib.hid (HB.out.trans (H5.out.below.mono HB.out.size))
  clear H5 hfin 
  go_wp2
  go_ret
  exact ⟨rfl, LB.out⟩
set_option maxRecDepth 100000 in
set_option maxHeartbeats 8000000 in
theorem lay_und {k t p pg o x bg : Int} {bf af : ByteArray} {ts : List Row3} {ps : List Row2} (k2 : k = 2) (hl : Lists w ⟨k, t, pg, o, p, x, bg, bf, af, ts, ps⟩ vt vp) (hf : Fit ⟨k, t, pg, o, p, x, bg, bf, af, ts, ps⟩) (L : List UInt8) (hL : L = [lowI k] ++ beI t ++ beI p ++ beI x ++ [lowI pg, lowI o, lowI af.size] ++ bf.data.toList ++ af.data.toList) :
    Calls Try.prog 46 #[recV ⟨k, t, pg, o, p, x, bg, bf, af, ts, ps⟩ vt vp] w fun e w' => e = .returned (.string ⟨L.toArray⟩) ∧ Below w.heap.size w w' := by
  subst k2
  obtain ⟨i0, hi, he⟩ := Option.map_eq_some_iff.1 info_byte
  simp only [Prod.mk.injEq] at he
  obtain ⟨hz0, hz1, hz2⟩ := he
  have LL := Lib.hid hL
  have hne : L ≠ [] := by rw [hL]; simp
  obtain ⟨f1, f2, f3, f4⟩ := hf
  simp only at f1 f2 f3 f4
  have hb0 : Below w.heap.size w (w.alloc (.cells (recCells ⟨2, t, pg, o, p, x, bg, bf, af, ts, ps⟩ vt vp) 50)) := (Below.refl _ _).alloc (Nat.le_refl _) _
  have B0 := Lib.hid (Blk.new w 50 (recCells ⟨2, t, pg, o, p, x, bg, bf, af, ts, ps⟩ vt vp))
  have HL := Lib.hid (hl.keep hb0)
  have HB := Lib.hid hb0
  have H0 := Lib.hid (Buf.first (w.alloc (.cells (recCells ⟨2, t, pg, o, p, x, bg, bf, af, ts, ps⟩ vt vp) 50)) 2)
  rw [World.size_alloc] at H0
  clear hL hl hb0
  unfold recV recCells
  go_enter Try.func46, Try.ntmps46
  go_wp2_with fail
  refine (appendNumber_any H0.out (by first | omega | (simp; done)) t).mono ?_
  rintro e w1 ⟨v1, rfl, hb, _⟩
  have hl1 : ([lowI 2] ++ beI t).length ≤ 5 := by rw [List.length_append, beI_len]; first | omega | exact Nat.le_refl _
  have H1 := Lib.hid hb
  clear hb H0 
  generalize hq : [lowI 2] ++ beI t = l1 at *
  have Q1 := Lib.hid hq
  clear hq
  have bx := B0.out.keep H1.out.below B0.out.lt
  have c4 := bx.cell 4
  simp [recCells] at c4
  clear bx
  go_wp2_with fail
  refine (appendNumber_any H1.out (by first | omega | (simp; done)) p).mono ?_
  rintro e w2 ⟨v2, rfl, hb, _⟩
  have hl2 : (l1 ++ beI p).length ≤ 9 := by rw [List.length_append, beI_len]; first | omega | exact Nat.le_refl _
  have H2 := Lib.hid hb
  clear hb H1 c4
  generalize hq : l1 ++ beI p = l2 at *
  have Q2 := Lib.hid hq
  clear hq
  have bx := B0.out.keep H2.out.below B0.out.lt
  have c0 := bx.cell 0
  have c5 := bx.cell 5
  simp [recCells] at c0 c5
  clear bx
  go_wp2_with fail
  refine (appendNumber_any H2.out (by first | omega | (simp; done)) x).mono ?_
  rintro e w3 ⟨v3, rfl, hb, _⟩
  have hl3 : (l2 ++ beI x).length ≤ 13 := by rw [List.length_append, beI_len]; first | omega | exact Nat.le_refl _
  have H3 := Lib.hid hb
  clear hb H2 c0 c5
  generalize hq : l2 ++ beI x = l3 at *
  have Q3 := Lib.hid hq
  clear hq
  have bx := B0.out.keep H3.out.below B0.out.lt
  have c2 := bx.cell 2
  have c3 := bx.cell 3
  have c8 := bx.cell 8
  simp [recCells] at c2 c3 c8
  clear bx
  have hown := own_below H3.out.own ((Below.refl w3.heap.size w3).alloc (Nat.le_refl _) (.cells #[.int .u8 (pg % 256), .int .u8 (o % 256), .int .u8 ((af.size : Int) % 256)] 5))
  have hle := H3.out.le
  rw [World.size_alloc] at hle
  go_wp2_with (at_builtin; refine wpList_append_own _ rfl (.tmp 31) (.tmp 42) 51 rfl (w.alloc (.cells (recCells ⟨2, t, pg, o, p, x, bg, bf, af, ts, ps⟩ vt vp) 50)).heap.size 5 i0 (.int .u8 0) 1 1 Try.underlying51 hi hz0 hz1 hz2 rfl (by decide) v3 _ _ rfl hown ⟨w3.heap.size, 0, none⟩ 3 3 [.int .u8 (pg % 256), .int .u8 (o % 256), .int .u8 ((af.size : Int) % 256)] rfl rfl (World.news_of_block (heap_alloc_new w3 _)) (by simp [Value.oneCell']) (by unfold maxLen; omega) (by omega) (by simp; omega) ?_)
  intro v4 w4 hown4 hgrow _
  have hl4 : (l3 ++ [lowI pg, lowI o, lowI af.size]).length ≤ 16 := by rw [List.length_append]; show _ + 3 ≤ _; omega
  have H4 := Lib.hid ((H3.out.more ((Below.refl _ _).alloc (Nat.le_refl _) _)).grow (m := 3) (by rw [World.size_alloc]; exact hown4) hgrow (three_cells pg o af.size))
  clear hown hown4 hgrow hle H3
  generalize hq : l3 ++ [lowI pg, lowI o, lowI af.size] = l4 at *
  have Q4 := Lib.hid hq
  clear hq
  have bx := B0.out.keep H4.out.below B0.out.lt
  have c7 := bx.cell 7
  simp [recCells] at c7
  clear bx
  have hown := H4.out.own
  have hle := H4.out.le
  rw [World.size_alloc] at hle
  go_wp2_with (at_builtin; refine Lib.wpList_append_own_string _ rfl (.tmp 44) (.tmp 46) 51 9 rfl (w.alloc (.cells (recCells ⟨2, t, pg, o, p, x, bg, bf, af, ts, ps⟩ vt vp) 50)).heap.size 5 i0 Try.underlying51 Try.underlying9 hi hz0 hz1 hz2 v4 _ _ rfl hown bf rfl (by unfold maxLen; omega) (by omega) (by simp; omega) ?_)
  intro v5 w5 hown5 hgrow _
  have hl5 : (l4 ++ bf.data.toList).length ≤ 400 := by rw [List.length_append, size_bytes]; omega
  have H5 := Lib.hid (H4.out.grow (m := bf.size) (by rw [World.size_alloc]; exact hown5) hgrow (strCells_bytes bf))
  clear hown hown5 hgrow hle H4
  generalize hq : l4 ++ bf.data.toList = l5 at *
  have Q5 := Lib.hid hq
  clear hq
  have bx := B0.out.keep H5.out.below B0.out.lt
  have c8 := bx.cell 8
  simp [recCells] at c8
  clear bx
  have hown := H5.out.own
  have hle := H5.out.le
  rw [World.size_alloc] at hle
  go_wp2_with (at_builtin; refine Lib.wpList_append_own_string _ rfl (.tmp 48) (.tmp 50) 51 9 rfl (w.alloc (.cells (recCells ⟨2, t, pg, o, p, x, bg, bf, af, ts, ps⟩ vt vp) 50)).heap.size 5 i0 Try.underlying51 Try.underlying9 hi hz0 hz1 hz2 v5 _ _ rfl hown af rfl (by unfold maxLen; omega) (by omega) (by simp; omega) ?_)
  intro v6 w6 hown6 hgrow _
  have hl6 : (l5 ++ af.data.toList).length ≤ 800 := by rw [List.length_append, size_bytes]; omega
  have H6 := Lib.hid (H5.out.grow (m := af.size) (by rw [World.size_alloc]; exact hown6) hgrow (strCells_bytes af))
  clear hown hown6 hgrow hle H5
  generalize hq : l5 ++ af.data.toList = l6 at *
  have Q6 := Lib.hid hq
  clear hq
  have hfin : Buf (w.alloc (.cells (recCells ⟨2, t, pg, o, p, x, bg, bf, af, ts, ps⟩ vt vp) 50)) w6 v6 L := by rw [LL.out]; exact H6.out
  obtain ⟨gg, cc, hv, hcv⟩ := hfin.conv hne
  subst hv
  have LB := Lib.hid (HB.out.trans (H6.out.below.mono HB.out.size))
  clear H6 hfin 
  go_wp2
  go_ret
  exact ⟨rfl, LB.out⟩
end
end Go.Proofs.Ytpcfhpffbogjmaa
