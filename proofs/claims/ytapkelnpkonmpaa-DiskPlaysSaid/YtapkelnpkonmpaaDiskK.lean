/- Package disk: a copy. -/
import Derived.Test.YtapkelnpkonmpaaDiskJ
import Derived.Shelf.SlMaps.Clone
import Derived.Laws.Externs
import Derived.Lib.SliceRun
namespace Go.Proofs.Ytapkelnpkonmpaa
open Go.RowKit

section
variable {w : World} {F : Foot} {g : Nat} {d : Dk}
theorem ownsRow_empty (w : World) (e size : Nat) : (w.alloc (.cells #[] e)).ownsRow w.heap.size e size (.slice (some ⟨w.heap.size, 0, none⟩) 0 0) 0 [] :=
  ⟨by simp, .inr ⟨w.heap.size, 0, #[], rfl, Nat.le_refl _, heap_alloc_new w _, Nat.le_refl _, by decide, by simp, by simp⟩⟩
theorem own_base {w : World} {b0 e size n : Nat} {v : Value} {xs : List Value} (h : w.ownsRow b0 e size v n xs) : w.ownsRow 0 e size v n xs := by
  obtain ⟨hl, h | ⟨g, cap, cur, rfl, hb, h⟩⟩ := h
  · exact ⟨hl, .inl h⟩
  · exact ⟨hl, .inr ⟨g, cap, cur, rfl, Nat.zero_le _, h⟩⟩
theorem strsV_one (l : List ByteArray) : ∀ u ∈ strsV l, u.oneCell' = true := by
  intro u hu; obtain ⟨s, _, rfl⟩ := List.mem_map.1 hu; rfl
theorem waitsV_one (l : List (Nat × ByteArray)) : ∀ u ∈ waitsV l, u.oneCell' = true := by
  intro u hu
  obtain ⟨x, _, hx⟩ := List.mem_flatMap.1 hu
  simp [writeCells] at hx
  rcases hx with rfl | rfl <;> rfl
theorem own_cellsAt {w : World} {q n cap e size : Nat} {xs : List Value} (h : w.ownsRow 0 e size (.slice (some ⟨q, 0, none⟩) n cap) n xs) : ∀ j u, xs[j]? = some u → w.cell? ((⟨q, 0, none⟩ : Addr).add j) = some u := h.cells (g := q) rfl

set_option maxRecDepth 100000 in
set_option maxHeartbeats 2000000 in
theorem cloneStrs_any (l : List ByteArray) (v : Value) (w : World) (ho : w.ownsRow 0 9 1 v l.length (strsV l)) (hl : l.length ≤ 100000000) :
    Calls Try.prog 41 #[v] w fun e w' => ∃ v', e = .returned v' ∧ w'.ownsRow 0 9 1 v' l.length (strsV l) ∧ (∀ b, v'.ownBlock = some b → w.heap.size ≤ b) ∧ Below w.heap.size w w' := by
  obtain ⟨i0, hi0, hz0, hz1, hz2⟩ := info_parts info_string
  rcases own_any ho with ⟨rfl, h0, hx⟩ | ⟨q, cap, rfl, hq, hqm⟩
  · rw [h0, hx] at ho ⊢
    have HO := Lib.hid ho
    clear ho h0 hx hl
    have hq := fun w => Lib.run_eql_slice_nil (P := Try.prog) w 40 _ none 0 0 0 0 Try.underlying40
    go_enter Try.func41, Try.ntmps41
    go_wp2
    go_ret
    exact ⟨_, rfl, HO.out, fun b hb => by simp [Value.ownBlock] at hb, Below.refl _ _⟩
  · have hlq := (ho.lt q rfl).2
    have h1 : strsV l = [] ++ strsV l := rfl
    have hcs := fun j u hj => (((Below.refl w.heap.size w).alloc (Nat.le_refl _) (.cells #[] 9)).cell (p := (⟨q, 0, none⟩ : Addr).add j) (by rw [addAt]; exact hlq)).trans (own_cellsAt ho j u hj)
    have HS := Lib.hid hcs
    have H1 := Lib.hid (strsV_one l)
    have HL := Lib.hid (strsV_len l)
    clear ho hcs h1
    have hq := fun w => Lib.run_eql_slice_nil (P := Try.prog) w 40 _ (some ⟨q, 0, none⟩) l.length cap 0 0 Try.underlying40
    go_enter Try.func41, Try.ntmps41
    go_wp2_with (at_builtin; refine wpList_append_own _ rfl (.tmp 5) (.tmp 6) 40 rfl w.heap.size 9 i0 (.string ⟨#[]⟩) 1 16 Try.underlying40 hi0 hz0 hz1 hz2 rfl (by decide) _ _ _ rfl (ownsRow_empty w _ 1) ⟨q, 0, none⟩ l.length cap (strsV l) rfl (by rw [HL.out]; omega) HS.out H1.out (by simp only [maxLen]; omega) (by omega) (by simp) ?_)
    intro v' w1 hown hgrow _
    have hb : Below w.heap.size w w1 := ((Below.refl _ _).alloc (Nat.le_refl _) _).grown hgrow (by simp) (fun k hk => by simp [Value.ownBlock] at hk; omega)
    have HOW := Lib.hid hown
    have HLT := Lib.hid hown.lt
    clear hown hgrow
    go_wp2
    go_ret
    exact ⟨_, rfl, own_base HOW.out, fun b hb => (HLT.out b hb).1, hb⟩
set_option maxRecDepth 100000 in
set_option maxHeartbeats 2000000 in
theorem cloneWaits_any (l : List (Nat × ByteArray)) (v : Value) (w : World) (ho : w.ownsRow 0 69 2 v l.length (waitsV l)) (hl : l.length ≤ 100000000) :
    Calls Try.prog 42 #[v] w fun e w' => ∃ v', e = .returned v' ∧ w'.ownsRow 0 69 2 v' l.length (waitsV l) ∧ (∀ b, v'.ownBlock = some b → w.heap.size ≤ b) ∧ Below w.heap.size w w' := by
  obtain ⟨i0, hi0, hz0, hz1, hz2⟩ := info_parts info_write
  rcases own_any ho with ⟨rfl, h0, hx⟩ | ⟨q, cap, rfl, hq, hqm⟩
  · rw [h0, hx] at ho ⊢
    have HO := Lib.hid ho
    clear ho h0 hx hl
    have hq := fun w => Lib.run_eql_slice_nil (P := Try.prog) w 63 _ none 0 0 0 0 Try.underlying63
    go_enter Try.func42, Try.ntmps42
    go_wp2
    go_ret
    exact ⟨_, rfl, HO.out, fun b hb => by simp [Value.ownBlock] at hb, Below.refl _ _⟩
  · have hlq := (ho.lt q rfl).2
    have hcs := fun j u hj => (((Below.refl w.heap.size w).alloc (Nat.le_refl _) (.cells #[] 69)).cell (p := (⟨q, 0, none⟩ : Addr).add j) (by rw [addAt]; exact hlq)).trans (own_cellsAt ho j u hj)
    have HS := Lib.hid hcs
    have H1 := Lib.hid (waitsV_one l)
    have HL := Lib.hid (waitsV_len l)
    clear ho hcs
    have hq := fun w => Lib.run_eql_slice_nil (P := Try.prog) w 63 _ (some ⟨q, 0, none⟩) l.length cap 0 0 Try.underlying63
    go_enter Try.func42, Try.ntmps42
    go_wp2_with (at_builtin; refine wpList_append_own _ rfl (.tmp 5) (.tmp 6) 63 rfl w.heap.size 69 i0 (.agg #[.int .i64 0, .string ⟨#[]⟩]) 2 24 Try.underlying63 hi0 hz0 hz1 hz2 rfl (by decide) _ _ _ rfl (ownsRow_empty w _ 2) ⟨q, 0, none⟩ l.length cap (waitsV l) rfl HL.out HS.out H1.out (by simp only [maxLen]; omega) (by omega) (by simp) ?_)
    intro v' w1 hown hgrow _
    have hb : Below w.heap.size w w1 := ((Below.refl _ _).alloc (Nat.le_refl _) _).grown hgrow (by simp) (fun k hk => by simp [Value.ownBlock] at hk; omega)
    have HOW := Lib.hid hown
    have HLT := Lib.hid hown.lt
    clear hown hgrow
    go_wp2
    go_ret
    exact ⟨_, rfl, own_base HOW.out, fun b hb => (HLT.out b hb).1, hb⟩

set_option maxRecDepth 100000 in
set_option maxHeartbeats 2000000 in
theorem cloneMap_any (b : Nat) (f : Int → Option Value) (w : World) (h : IsMap w b f) :
    Calls Try.prog 43 #[.map (some b)] w fun e w' => e = .returned (.map (some w.heap.size)) ∧ IsMap w' w.heap.size f ∧ Below w.heap.size w w' := by
  obtain ⟨es, clock, hb, he, hf⟩ := h
  have hq := fun w => run_eql_map_nil_sl (P := Try.prog) w 62 _ _ (some b) Try.underlying62
  have hm : IsMap (w.alloc (.map es clock)) w.heap.size f := ⟨es, clock, (MapKept.heap_alloc w _).1, he, hf⟩
  have HM := Lib.hid hm
  have HB := Lib.hid hb
  clear hm he hf hb
  go_enter Try.func43, Try.ntmps43
  go_wp2
  rw [run_callFunc_extern Try.func47 (by kernel_rfl) (by kernel_rfl) (by kernel_rfl) (e := Extern.MapsClone.clone) (by kernel_rfl), run_maps_clone_sl w 62 HB.out]
  simp only [Result.andThen]
  rw [Oper.upon_value]
  go_wp2
  rw [run_typeAssert_map_sl _ 62 20 _ _ _ Try.underlying62]
  simp only [Result.andThen]
  rw [Oper.upon_value]
  go_wp2
  go_ret
  exact ⟨rfl, HM.out, (Below.refl _ _).alloc (Nat.le_refl _) _⟩

/-- The blocks of a copy: c its head, amid what was made since. -/
theorem copy_raw {w W : World} {c : Nat} {vs' vq' : Value} {m' : Nat} (ho : d.Ok) (hB : Below w.heap.size w W) (hc : w.heap.size ≤ c) (hh : Blk W c 65 (diskCells vs' vq' m' d.gone d.fuse.isSome (fuseOf d.fuse)))
    (h1 : W.ownsRow 0 9 1 vs' d.safe.length (strsV d.safe)) (h2 : W.ownsRow 0 69 2 vq' d.waits.length (waitsV d.waits)) (h3 : IsMap W m' (lastV d.waits)) (g1 : ∀ b, vs'.ownBlock = some b → w.heap.size ≤ b) (g2 : ∀ b, vq'.ownBlock = some b → w.heap.size ≤ b) (g3 : w.heap.size ≤ m') :
    IsDisk W (fun b => w.heap.size ≤ b ∧ b < W.heap.size) c d ∧ Below w.heap.size w W :=
  ⟨⟨ho, vs', vq', m', ⟨hh, h1, h2, h3, ⟨hc, hh.lt⟩, ⟨g3, h3.lt⟩, fun b hb => ⟨g1 b hb, (h1.lt b hb).2⟩, fun b hb => ⟨g2 b hb, (h2.lt b hb).2⟩, fun _ hb => hb.2⟩⟩, hB⟩
theorem own_set {w : World} {e size n c t i : Nat} {v u : Value} {xs : List Value} {cs : Array Value} (h : w.ownsRow 0 e size v n xs) (hc : Blk w c t cs) (hne : e ≠ t) : (w.setCell ⟨c, i, none⟩ u).ownsRow 0 e size v n xs :=
  own_keep h fun b hb => heap_setCell_other w ⟨c, i, none⟩ b u (fun e' => own_blk h hc hne (by rw [hb, e']))

set_option maxRecDepth 100000 in
set_option maxHeartbeats 4000000 in
theorem copy_any (h : IsDisk w F g d) (hl : d.waits.length ≤ 100000000) :
    Calls Try.prog 23 #[.pointer (some ⟨g, 0, none⟩)] w fun e w' => ∃ c F', e = .returned (.pointer (some ⟨c, 0, none⟩)) ∧ IsDisk w' F' c d ∧ (∀ b, F' b → w.heap.size ≤ b) ∧ Below w.heap.size w w' := by
  obtain ⟨ho, vs, vq, m, r⟩ := h
  obtain ⟨a1, cap1, rfl, _⟩ := own_len r.safe
  obtain ⟨a2, cap2, rfl, _⟩ := own_len r.wait
  obtain ⟨c0, c1, c2, c3, c4, c5⟩ := r.cells
  have hB0 : Below w.heap.size w (w.alloc (.cells (diskCells (.slice a1 d.safe.length cap1) (.slice a2 d.waits.length cap2) m d.gone d.fuse.isSome (fuseOf d.fuse)) 65)) := (Below.refl _ _).alloc (Nat.le_refl _) _
  have bc0 : Blk (w.alloc (.cells (diskCells (.slice a1 d.safe.length cap1) (.slice a2 d.waits.length cap2) m d.gone d.fuse.isSome (fuseOf d.fuse)) 65)) w.heap.size 65 (diskCells (.slice a1 d.safe.length cap1) (.slice a2 d.waits.length cap2) m d.gone d.fuse.isSome (fuseOf d.fuse)) := Blk.new _ _ _
  have lg := r.lt g r.fg
  have hlen := ho.le
  have H1 := Lib.hid (cloneStrs_any d.safe _ _ (r.below hB0).safe (by omega))
  have HR := Lib.hid r
  have HO := Lib.hid ho
  have HB0 := Lib.hid hB0
  have HBC := Lib.hid bc0
  have HL := Lib.hid hl
  clear hB0 bc0 r ho hl hlen
  go_enter Try.func23, Try.ntmps23
  go_wp2_with fail
  refine H1.out.mono ?_
  rintro e w1 ⟨vs', rfl, o1, g1, hb1⟩
  obtain ⟨b1, k1, rfl, _⟩ := own_len o1
  have bc1 := HBC.out.keep hb1 HBC.out.lt
  have e10 := bc1.cell 0
  have f10 := bc1.frozen 0
  have hB1 : Below w.heap.size w w1 := below2 HB0.out hb1
  have hX : Below w.heap.size w (w1.setCell ⟨w.heap.size, 0, none⟩ (.slice b1 d.safe.length k1)) := hB1.setCell (Nat.le_refl _) _
  have bX := bc1.set 0 (.slice b1 d.safe.length k1)
  have oX := own_set (i := 0) (u := .slice b1 d.safe.length k1) o1 bc1 (by decide)
  have HX := Lib.hid hX
  have BX := Lib.hid bX
  have OX := Lib.hid oX
  have G1 : Hid (∀ b, (Value.slice b1 d.safe.length k1).ownBlock = some b → w.heap.size ≤ b) := fun b hb => Nat.le_trans (HB0.out.size) (g1 b hb)
  obtain ⟨_, x1, _⟩ := (HR.out.below hX).cells
  clear hX bX oX g1 bc1 o1 hb1 c0 c1 c2 c3 c4 c5
  go_wp2_with fail
  generalize w1.setCell ⟨w.heap.size, 0, none⟩ (.slice b1 d.safe.length k1) = X at *
  refine (cloneWaits_any d.waits _ _ (HR.out.below HX.out).wait HL.out).mono ?_
  rintro e w2 ⟨vq', rfl, o2, g2, hb2⟩
  obtain ⟨b2, k2, rfl, _⟩ := own_len o2
  have bc2 := BX.out.keep hb2 BX.out.lt
  have e21 := bc2.cell 1
  have f21 := bc2.frozen 1
  have hB2 : Below w.heap.size w w2 := below2 HX.out hb2
  have hY : Below w.heap.size w (w2.setCell ⟨w.heap.size, 1, none⟩ (.slice b2 d.waits.length k2)) := hB2.setCell (Nat.le_refl _) _
  have bY := bc2.set 1 (.slice b2 d.waits.length k2)
  have oY := own_set (i := 1) (u := .slice b2 d.waits.length k2) (own_below OX.out hb2) bc2 (by decide)
  have oY2 := own_set (i := 1) (u := .slice b2 d.waits.length k2) o2 bc2 (by decide)
  have HY := Lib.hid hY
  have BY := Lib.hid bY
  have OY := Lib.hid oY
  have OY2 := Lib.hid oY2
  have G2 : Hid (∀ b, (Value.slice b2 d.waits.length k2).ownBlock = some b → w.heap.size ≤ b) := fun b hb => Nat.le_trans (HX.out.size) (g2 b hb)
  obtain ⟨_, _, y2, _⟩ := (HR.out.below hY).cells
  clear hY bY oY oY2 g2 bc2 o2 hb2 x1 e10 f10
  go_wp2_with fail
  generalize w2.setCell ⟨w.heap.size, 1, none⟩ (.slice b2 d.waits.length k2) = Y at *
  refine (cloneMap_any m _ _ (HR.out.below HY.out).last).mono ?_
  rintro e w3 ⟨rfl, hm, hb3⟩
  have bc3 := BY.out.keep hb3 BY.out.lt
  have e32 := bc3.cell 2
  have f32 := bc3.frozen 2
  have hB3 : Below w.heap.size w w3 := below2 HY.out hb3
  have hZ : Below w.heap.size w (w3.setCell ⟨w.heap.size, 2, none⟩ (.map (some Y.heap.size))) := hB3.setCell (Nat.le_refl _) _
  have bZ := bc3.set 2 (.map (some Y.heap.size))
  have hfin := copy_raw (d := d) (c := w.heap.size) HO.out hZ (Nat.le_refl _) bZ (own_set (own_below OY.out hb3) bc3 (by decide)) (own_set (own_below OY2.out hb3) bc3 (by decide))
    (hm.keep (heap_setCell_other w3 ⟨w.heap.size, 2, none⟩ Y.heap.size _ (fun e => hm.cells bc3 e.symm))) G1.out G2.out HY.out.size
  have HF := Lib.hid hfin
  clear hfin bZ hZ bc3 hm hb3 y2 e21 f21
  go_wp2
  go_ret
  exact ⟨_, _, rfl, HF.out.1, fun b hb => hb.1, HF.out.2⟩
set_option maxRecDepth 100000 in
theorem copy_nil (w : World) : Calls Try.prog 23 #[.pointer none] w fun e w' => e = .returned (.pointer none) ∧ w = w' := by
  go_enter Try.func23, Try.ntmps23
  go_wp2
  go_ret
  exact ⟨rfl, rfl⟩
end
end Go.Proofs.Ytapkelnpkonmpaa
