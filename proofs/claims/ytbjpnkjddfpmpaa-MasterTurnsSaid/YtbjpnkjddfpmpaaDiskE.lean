/- Package disk: a sector is written. -/
import Derived.Test.YtbjpnkjddfpmpaaDiskD
import Derived.Deep.RegionHeld3
import Derived.StillTailTactics
import Derived.Deep.RegionLaw
namespace Go.Proofs.Ytbjpnkjddfpmpaa
open Go.RowKit

theorem info_write : (Try.prog.info? 69).map (fun i => (i.zero, i.size, i.bytes)) = some (some (.agg #[.int .i64 0, .string ⟨#[]⟩]), 2, 24) := by kernel_rfl

section
variable {w : World} {F : Foot} {g : Nat} {d : Dk}
/-- Behind the append: the row of the writes that wait is longer; the map not yet. -/
theorem RawF.pushed {W w1 : World} {f : Int → Option Value} {vs vq : Value} {m : Nat} (h : RawF W F g d f vs vq m) (x : Nat × ByteArray) {v' : Value} (hown : w1.ownsRow 0 69 2 v' (d.waits.length + 1) (waitsV d.waits ++ writeCells x))
    (hg : W.grownBy w1 vq.ownBlock) (hat : ∀ b, v'.ownBlock = some b → vq.ownBlock = some b ∨ W.heap.size ≤ b) :
    RawF (w1.setCell ⟨g, 1, none⟩ v') (fun b => F b ∨ (W.heap.size ≤ b ∧ b < w1.heap.size)) g { d with waits := d.waits ++ [x] } f vs v' m ∧ Step F (fun b => F b ∨ (W.heap.size ≤ b ∧ b < w1.heap.size)) W (w1.setCell ⟨g, 1, none⟩ v') := by
  have far : ∀ b, b < W.heap.size → vq.ownBlock ≠ some b → w1.heap[b]? = W.heap[b]? := fun b hb hne => hg.block b hb (Ne.symm hne)
  have lt := h.lt
  have hs : Step F (fun b => F b ∨ (W.heap.size ≤ b ∧ b < w1.heap.size)) W w1 := ((Step.refl F W).grown hg h.fq).widen
  have hh : Blk w1 g 56 (diskCells vs vq m d.gone d.fuse.isSome (fuseOf d.fuse)) := (far g (lt g h.fg) h.gq).trans h.head
  have hv : v'.ownBlock ≠ some g := own_blk hown hh (by decide)
  have set : ∀ b, b ≠ g → (w1.setCell ⟨g, 1, none⟩ v').heap[b]? = w1.heap[b]? := fun b hb => heap_setCell_other w1 ⟨g, 1, none⟩ b _ hb
  refine ⟨⟨hh.set 1 v', ?_, ?_, ?_, .inl h.fg, .inl h.fm, fun b hb => .inl (h.fs b hb), fun b hb => ?_, fun b hb => ?_⟩, hs.set (p := ⟨g, 1, none⟩) (.inl h.fg) _⟩
  · exact own_keep h.safe fun b hb => (set b (fun e => h.gs (by rw [hb, e]))).trans (far b (lt b (h.fs b hb)) (h.sq hb))
  · have := own_keep (w' := w1.setCell ⟨g, 1, none⟩ v') hown fun b hb => set b (fun e => hv (by rw [hb, e]))
    rw [waitsV_snoc, List.length_append]
    exact this
  · exact h.last.keep ((set m h.gm.symm).trans (far m (lt m h.fm) h.qm))
  · rcases hat b hb with hb' | hb'
    · exact .inl (h.fq b hb')
    · exact .inr ⟨hb', (hown.lt b hb).2⟩
  · show b < (w1.setCell _ _).heap.size
    rcases hb with hb | hb
    · have := lt b hb; have := hg.size; simp [World.setCell]; omega
    · simpa [World.setCell] using hb.2
/-- Another block of the map. -/
theorem RawF.mapped {f f' : Int → Option Value} {vs vq : Value} {m : Nat} (h : RawF w F g d f vs vq m) (o : Obj) (hm : IsMap { w with heap := w.heap.setIfInBounds m o } m f') :
    RawF { w with heap := w.heap.setIfInBounds m o } F g d f' vs vq m := by
  have far : ∀ b, b ≠ m → (w.heap.setIfInBounds m o)[b]? = w.heap[b]? := fun b hb => by rw [Array.getElem?_setIfInBounds, if_neg (Ne.symm hb)]
  exact ⟨(far g h.gm).trans h.head, own_keep h.safe fun b hb => far b (fun e => h.sm (by rw [hb, e])), own_keep h.wait fun b hb => far b (fun e => h.qm (by rw [hb, e])), hm, h.fg, h.fm, h.fs, h.fq, fun b hb => by simpa using h.lt b hb⟩
theorem put_run {m : Nat} {f : Int → Option Value} (h : IsMap w m f) (i : Int) (v : Value) :
    ∃ o, (Instr.mapUpdate 53 (.map (some m)) (.int .i64 i) v).run Try.prog w = .ok () { w with heap := w.heap.setIfInBounds m o } ∧ IsMap { w with heap := w.heap.setIfInBounds m o } m fun c => if c = i then some v else f c :=
  h.put Try.underlying53 Try.underlying3 i v

theorem lastV_snoc (l : List (Nat × ByteArray)) (k : Nat) (s : ByteArray) (c : Int) : (if c = (k : Int) then some (writeV k s) else lastV l c) = lastV (l ++ [(k, s)]) c := by
  unfold lastV
  rw [lastOf_snoc]
  by_cases h : c = (k : Int)
  · subst h; simp
  · rw [if_neg h, if_neg (Ne.symm h)]
theorem IsDisk.mk' {w : World} {F : Foot} {g : Nat} {d D : Dk} {k : Nat} {s : ByteArray} {vs vq : Value} {m : Nat} (ho : ({ D with waits := d.waits ++ [(k, s)] } : Dk).Ok) (hw : D.waits = d.waits)
    (h : RawF w F g { D with waits := D.waits ++ [(k, s)] } (fun c => if c = (k : Int) then some (writeV k s) else lastV D.waits c) vs vq m) : IsDisk w F g { D with waits := d.waits ++ [(k, s)] } := by
  rw [← hw]
  rw [← hw] at ho
  exact ⟨ho, vs, vq, m, h.head, h.safe, h.wait, h.last.congr (lastV_snoc _ _ _), h.fg, h.fm, h.fs, h.fq, h.lt⟩

set_option maxRecDepth 100000 in
set_option maxHeartbeats 4000000 in
theorem write_ok (h : IsDisk w F g d) (k : Nat) (s : ByteArray) (hi : d.has k) (hs : s.size = 128) (hbear : d.bears = true) (hl : d.waits.length < 16777216) :
    Calls Try.prog 25 #[.pointer (some ⟨g, 0, none⟩), .int .i64 k, .string s] w fun e w' => e = .returned (.int .i64 0) ∧ ∃ F', IsDisk w' F' g { d.burn with waits := d.waits ++ [(k, s)] } ∧ Step F F' w w' := by
  obtain ⟨i0, hi0, hz0, hz1, hz2⟩ := info_parts info_write
  have hok : ({ d.burn with waits := d.waits ++ [(k, s)] } : Dk).Ok := by
    have := h.1.write k s
    unfold Dk.write at this
    rw [if_pos hi, if_pos hs, if_pos hbear] at this
    simpa using this
  have H1 := Lib.hid (has_any h k true (by simp [hi]))
  have H2 := Lib.hid (bears_any h true hbear.symm)
  have H3 := Lib.hid (fun W => cloneS_any s W (by omega))
  have HO := Lib.hid hok
  have hne : ((s.size : Int) != 128) = false := by simp [hs]
  have hbw := Dk.burn_waits d
  rw [← hbw] at hl
  have HW := Lib.hid hbw
  generalize hB : d.burn = D at *
  have HB := Lib.hid hB
  clear hok hi hs hbear hbw hB
  go_enter Try.func25, Try.ntmps25
  go_wp2_with fail
  refine H1.out.mono ?_
  rintro e w1 ⟨rfl, rfl⟩
  go_wp2_with fail
  refine H2.out.mono ?_
  rintro e w1 ⟨rfl, hd1, hs1⟩
  go_wp2_with fail
  refine (H3.out _).mono ?_
  rintro e w2 ⟨rfl, hb2⟩
  go_wp2_with fail
  obtain ⟨ho1, vs, vq, m, r1⟩ := hd1
  have r2 := r1.below hb2
  have xq : vq.ownBlock ≠ some w2.heap.size := fun e => by have := r2.lt _ (r2.fq _ e); omega
  have rW := r2.below ((Below.refl _ _).alloc (Nat.le_refl _) (.cells #[.int .i64 (k : Int), .string s] 69))
  have hbW : Below w1.heap.size w1 (w2.alloc (.cells #[.int .i64 (k : Int), .string s] 69)) := hb2.alloc hb2.size _
  have b0 : Blk (w2.alloc (.cells #[.int .i64 (k : Int), .string s] 69)) w2.heap.size 69 #[.int .i64 (k : Int), .string s] := Blk.new _ _ _
  change Code.wp _ _ _ _ (w2.alloc (.cells #[.int .i64 (k : Int), .string s] 69))
  have hx : (w2.alloc (.cells #[.int .i64 (k : Int), .string s] 69)).heap.size = w2.heap.size + 1 := by simp
  generalize w2.heap.size = x at *
  generalize hWW : w2.alloc (.cells #[.int .i64 (k : Int), .string s] 69) = W at *
  clear hWW hb2 r2
  have b00 := b0.cell 0
  have b01 := b0.cell 1
  obtain ⟨_, c1, c2, _⟩ := rW.cells
  have f1 := rW.frozen 1
  have lg := rW.lt g rW.fg
  have lx : x < W.heap.size := by omega
  have nq := rW.gq
  have hxh := Lib.hid hx
  clear hx
  have hbk : W.frozen? ⟨g, 1, none⟩ = false := f1
  go_region_law
    ((refine step_append_lies _ (by rfl) _ _ _ (by rfl) 0 69 i0 _ 2 24 Try.underlying54 hi0 hz0 hz1 hz2 rfl (by omega) vq _ _ (by rfl) ((rW.wait.alloc _).drew)
        ⟨W.heap.size, 0, none⟩ 1 1 [.int .i64 k, .string s] (by rfl) (by rfl) (World.news_of_block (cs := #[.int .i64 k, .string s]) (t := 69) (fr := (0, 0)) (heap_alloc_new W _)) (by simp [Value.oneCell'])
        (by omega) (by simp only [maxLen]; omega) (by omega) (by simp) (W.heap.size + 1) (by simp) ?_; intro gg cap w3 hown hgrow hat hlt; have lg3 : g < (W.drew.alloc (.cells #[.int .i64 (k : Int), .string s] 69)).heap.size := Nat.lt_of_lt_of_le lg (by simp); have f3 : w3.frozen? ⟨g, 1, none⟩ = false := (hgrow.frozen_far ⟨g, 1, none⟩ lg3 (Ne.symm nq)).trans ((World.frozen?_alloc_old W.drew _ _ (Nat.ne_of_lt lg)).trans f1); have c3 : w3.cell? ⟨g, 1, none⟩ = some vq := (hgrow.cell_far ⟨g, 1, none⟩ lg3 (Ne.symm nq)).trans ((World.cell?_alloc_lt W.drew _ _ lg).trans c1)))
  all_goals
    obtain ⟨r4, s4⟩ := ((rW.below ((Below.refl _ _).alloc (Nat.le_refl _) (.cells #[.int .i64 (k : Int), .string s] 69))).drew).pushed (k, s) hown hgrow (fun b hb => by
      simp only [Value.ownBlock, Option.some.injEq] at hb
      subst hb
      rcases hat with hat | hat
      · exact .inl hat
      · right; show (W.alloc _).heap.size ≤ gg; simp; omega)
    have c4 := r4.cells.2.2.1
    have bx : Blk (w3.setCell ⟨g, 1, none⟩ (.slice (some ⟨gg, 0, none⟩) (D.waits.length + 1) cap)) x 69 #[.int .i64 (k : Int), .string s] := by
      refine ((heap_setCell_other w3 ⟨g, 1, none⟩ x _ ?_).trans (hgrow.block x ?_ (Ne.symm xq))).trans ((b0.alloc _).drew)
      · rintro rfl
        have := rW.head
        unfold Blk at this b0
        rw [b0] at this
        simp [diskCells] at this
      · exact Nat.lt_of_lt_of_le lx (by simp)
    have b40 := bx.cell 0
    have b41 := bx.cell 1
    obtain ⟨o, hrun, hm⟩ := put_run r4.last.drew (k : Int) (writeV k s)
    unfold writeV at hrun
    have r5 := (r4.drew).mapped o hm
    have s5 := (s4.drew).setObj r4.fm o
    have hfin := IsDisk.mk' HO.out HW.out r5
    have sfin := (hs1.trans ((Step.refl F w1).more hbW)).trans (((Step.refl F W).alloc _).drew.trans s5)
    have R5 := Lib.hid hfin
    have S5 := Lib.hid sfin
    clear hfin sfin r4 r5 s4 s5 hm bx hgrow hat hlt lg3 f3 c3 hown b0 b00 b01 c1 f1 hbk
    generalize w3.setCell ⟨g, 1, none⟩ (.slice (some ⟨gg, 0, none⟩) (D.waits.length + 1) cap) = w4 at *
    go_wp2_with fail
    go_still_tail 6, (by kernel_rfl)
    go_wp2
    go_ret
    exact ⟨rfl, _, R5.out, S5.out⟩

set_option maxRecDepth 100000 in
set_option maxHeartbeats 1000000 in
theorem write_range (h : IsDisk w F g d) (i : Int) (s : ByteArray) (hi : ¬ d.has i) :
    Calls Try.prog 25 #[.pointer (some ⟨g, 0, none⟩), .int .i64 i, .string s] w fun e w' => e = .returned (.int .i64 2) ∧ w = w' := by
  have H1 := Lib.hid (has_any h i false (by simp [hi]))
  clear h hi
  go_enter Try.func25, Try.ntmps25
  go_wp2_with fail
  refine H1.out.mono ?_
  rintro e w1 ⟨rfl, rfl⟩
  go_wp2
  go_ret
  exact ⟨rfl, rfl⟩
set_option maxRecDepth 100000 in
set_option maxHeartbeats 1000000 in
theorem write_size (h : IsDisk w F g d) (i : Int) (s : ByteArray) (hi : d.has i) (hs : s.size ≠ 128) :
    Calls Try.prog 25 #[.pointer (some ⟨g, 0, none⟩), .int .i64 i, .string s] w fun e w' => e = .returned (.int .i64 1) ∧ w = w' := by
  have H1 := Lib.hid (has_any h i true (by simp [hi]))
  have hne : ((s.size : Int) != 128) = true := by simp; omega
  clear h hi hs
  go_enter Try.func25, Try.ntmps25
  go_wp2_with fail
  refine H1.out.mono ?_
  rintro e w1 ⟨rfl, rfl⟩
  go_wp2
  go_ret
  exact ⟨rfl, rfl⟩
set_option maxRecDepth 100000 in
set_option maxHeartbeats 1000000 in
theorem write_dead (h : IsDisk w F g d) (i : Int) (s : ByteArray) (hi : d.has i) (hs : s.size = 128) (hb : d.bears = false) :
    Calls Try.prog 25 #[.pointer (some ⟨g, 0, none⟩), .int .i64 i, .string s] w fun e w' => e = .returned (.int .i64 4) ∧ IsDisk w' F g d.burn ∧ Step F F w w' := by
  have H1 := Lib.hid (has_any h i true (by simp [hi]))
  have H2 := Lib.hid (bears_any h false hb.symm)
  have hne : ((s.size : Int) != 128) = false := by simp [hs]
  clear h hi hs hb
  go_enter Try.func25, Try.ntmps25
  go_wp2_with fail
  refine H1.out.mono ?_
  rintro e w1 ⟨rfl, rfl⟩
  go_wp2_with fail
  refine H2.out.mono ?_
  rintro e w1 ⟨rfl, hd, hs⟩
  go_wp2
  go_ret
  exact ⟨rfl, hd, hs⟩
set_option maxRecDepth 100000 in
theorem write_nil (i : Int) (s : ByteArray) (w : World) :
    Calls Try.prog 25 #[.pointer none, .int .i64 i, .string s] w fun e w' => e = .returned (.int .i64 10) ∧ w = w' := by
  go_enter Try.func25, Try.ntmps25
  go_wp2
  go_ret
  exact ⟨rfl, rfl⟩
theorem write_any (h : IsDisk w F g d) (i : Int) (s : ByteArray) (hl : d.waits.length < 16777216) :
    Calls Try.prog 25 #[.pointer (some ⟨g, 0, none⟩), .int .i64 i, .string s] w fun e w' => e = .returned (.int .i64 (d.writeE i s)) ∧ ∃ F', IsDisk w' F' g (d.write i s) ∧ Step F F' w w' := by
  unfold Dk.writeE Dk.write
  by_cases hi : d.has i
  · rw [if_pos hi, if_pos hi]
    by_cases hs : s.size = 128
    · rw [if_pos hs, if_pos hs]
      cases hb : d.bears with
      | true =>
        obtain ⟨k, rfl⟩ := Int.eq_ofNat_of_zero_le hi.1
        exact write_ok h k s hi hs hb hl
      | false => exact (write_dead h i s hi hs hb).mono fun e w' k => ⟨k.1, F, k.2⟩
    · rw [if_neg hs, if_neg hs]
      exact (write_size h i s hi hs).mono fun e w' ⟨k1, k2⟩ => ⟨k1, F, k2 ▸ h, k2 ▸ Step.refl F w⟩
  · rw [if_neg hi, if_neg hi]
    exact (write_range h i s hi).mono fun e w' ⟨k1, k2⟩ => ⟨k1, F, k2 ▸ h, k2 ▸ Step.refl F w⟩
end
end Go.Proofs.Ytbjpnkjddfpmpaa
