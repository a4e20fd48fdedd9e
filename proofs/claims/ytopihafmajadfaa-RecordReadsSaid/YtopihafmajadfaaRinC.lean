/- The document's reading (careenref04): Read, walked. -/
import Derived.Test.YtopihafmajadfaaRinB
import Derived.Test.YtopihafmajadfaaRecF
import Derived.Test.YtopihafmajadfaaRegionS
namespace Go.Proofs.Ytopihafmajadfaa
open Go.RowKit

abbrev rin0 (s : ByteArray) (k : Nat) : Rin := ⟨s.data.toList.drop k, false⟩
theorem readR_yes {s : ByteArray} {k : Nat} (h : k ≤ s.size) {r : Rc} {y : Rin} (he : Rin.rec0 (rin0 s k) = (r, y)) (hb : y.bad = false) (hm : May r) : readR s k = (r, (s.size : Int) - y.s.length, 0) := by
  have e := Rin.rec0_split (x0 := rin0 s k) (by rw [he]; exact hb) (by rw [he]; exact hm)
  rw [he] at e
  unfold readR
  rw [if_neg (by omega), Int.toNat_natCast, show s.data.toList.drop k = lay r ++ y.s from e, recP_lay hm]
  rfl
theorem readR_no {s : ByteArray} {k : Nat} (h : k ≤ s.size) {r : Rc} {y : Rin} (he : Rin.rec0 (rin0 s k) = (r, y)) (hn : y.bad = true ∨ ¬ May r) : readR s k = (.nil, 0, 3) := by
  unfold readR
  rw [if_neg (by omega), Int.toNat_natCast]
  cases hp : recP (s.data.toList.drop k) with
  | none => rfl
  | some z =>
    exfalso
    obtain ⟨hm, hl⟩ := recP_some (x := z.1) (r := z.2) hp
    have e := Rin.rec0_lay hm z.2
    rw [← hl] at e
    rw [show Rin.rec0 (rin0 s k) = (z.1, ⟨z.2, false⟩) from e] at he
    cases he
    rcases hn with hn | hn
    · cases hn
    · exact hn hm
namespace Rin
theorem rowsT_le : ∀ (n : Nat) (x : Rin), (rowsT n x).2.s.length ≤ x.s.length
  | 0, x => Nat.le_refl _
  | n + 1, x => by
    unfold rowsT
    split
    · exact Nat.le_refl _
    · exact Nat.le_trans (rowsT_le n _) (Nat.le_trans (rest_le _ _) (Nat.le_trans (rest_le _ _) (rest_le _ _)))
theorem rowsP_le : ∀ (n : Nat) (x : Rin), (rowsP n x).2.s.length ≤ x.s.length
  | 0, x => Nat.le_refl _
  | n + 1, x => by
    unfold rowsP
    split
    · exact Nat.le_refl _
    · exact Nat.le_trans (rowsP_le n _) (Nat.le_trans (rest_le _ _) (rest_le _ _))
theorem texts_le (x : Rin) (k : Int) (n : Nat) (r : Rc) : (texts x k n r).2.s.length ≤ x.s.length := by
  unfold texts
  split
  · exact Nat.le_trans (rest_le _ _) (rest_le _ _)
  · exact rest_le _ _
theorem change_le (x : Rin) (k : Int) (r : Rc) : (change x k r).2.s.length ≤ x.s.length := by
  unfold change
  exact Nat.le_trans (texts_le _ _ _ _) (Nat.le_trans (rest_le _ _) (Nat.le_trans (rest_le _ _) (rest_le _ _)))
theorem rec0_le (x : Rin) : (rec0 x).2.s.length ≤ x.s.length := by
  unfold rec0
  simp only
  split
  · split
    · exact Nat.le_trans (change_le _ _ _) (Nat.le_trans (rest_le _ _) (Nat.le_trans (rest_le _ _) (Nat.le_trans (rest_le _ _) (rest_le _ _))))
    · split
      · exact Nat.le_trans (change_le _ _ _) (Nat.le_trans (rest_le _ _) (Nat.le_trans (rest_le _ _) (rest_le _ _)))
      · exact Nat.le_trans (rest_le _ _) (Nat.le_trans (rest_le _ _) (rest_le _ _))
  · split
    · unfold tables
      exact Nat.le_trans (rowsP_le _ _) (Nat.le_trans (rest_le _ _) (Nat.le_trans (rowsT_le _ _) (Nat.le_trans (rest_le _ _) (Nat.le_trans (rest_le _ _) (rest_le _ _)))))
    · exact rest_le _ _
end Rin
theorem rin0_le {s : ByteArray} {k : Nat} {r : Rc} {y : Rin} (he : Rin.rec0 (rin0 s k) = (r, y)) : y.s.length ≤ s.size := by
  have := Rin.rec0_le (rin0 s k)
  rw [he] at this
  have h2 : (rin0 s k).s.length ≤ s.size := by show (s.data.toList.drop k).length ≤ _; rw [List.length_drop, size_bytes]; omega
  exact Nat.le_trans this h2
theorem results_tt {P : Program} {fn : Func} {p u q : Tmp} {ty : TypeId} (h : fn.results = #[.cell p ty, .tmp u, .tmp q]) (tmps : Array Value) (w : World) (g : Nat) (t : TypeId) (cs : Array Value) (d : TypeDesc)
    (hp : tmps.getD p undef = .pointer (some ⟨g, 0, none⟩)) (hg : Blk w g t cs)
    (hu : P.underlying ty = some d) (hd : (match d with | .struct _ | .array _ _ => true | _ => false) = true) (hi : (P.info? ty).map (·.size) = some cs.size) :
    (results fn tmps).run P w = .ok (.tuple #[.agg cs, tmps.getD u undef, tmps.getD q undef]) w := by
  have hp' : tmps[p]?.getD undef = .pointer (some ⟨g, 0, none⟩) := by simpa using hp
  simp [results, h, hp', asAddr, run_loadVar_row w g t ty cs (0, 0) d hg hu hd hi]
theorem setRow_below {w w' : World} {g : Nat} {cs : Array Value} (h : Below w.heap.size w w') (hg : w.heap.size ≤ g) : Below w.heap.size w (w'.setRow g cs) := below_setRow h hg cs

set_option maxRecDepth 100000 in
set_option maxHeartbeats 2000000 in
theorem refRead_range (s : ByteArray) (at_ : Int) (w : World) (h : at_ < 0 ∨ (s.size : Int) < at_) :
    Calls Try.prog 13 #[.string s, .int .i64 at_] w (Reads3N w (readR s at_)) := by
  unfold readR
  rw [if_pos h]
  have hn := Blk.new w 26 (recCells .nil (.slice none 0 0) (.slice none 0 0))
  have hB : Below w.heap.size w ((w.alloc (.cells (recCells .nil (.slice none 0 0) (.slice none 0 0)) 26)).setRow w.heap.size (recCells .nil (.slice none 0 0) (.slice none 0 0))) := below_setRow ((Below.refl _ _).alloc (Nat.le_refl _) _) (Nat.le_refl _) _
  have HB := Lib.hid hB
  clear hB
  by_cases h0 : at_ < 0
  · clear h
    go_enter Try.func13, Try.ntmps13
    go_wp2_with (refine wpList_store_row rfl 26 _ _ rfl w.heap.size _ rfl rfl 26 _ hn (by kernel_rfl) rfl (by simp [recCells, Value.oneCell']) ?_)
    refine bodyPost_ret (results_tt rfl _ _ w.heap.size 26 (recCells .nil (.slice none 0 0) (.slice none 0 0)) _ rfl (hn.setRow _) Try.underlying26 rfl (by kernel_rfl)) rfl ?_
    exact ⟨_, _, rfl, Lists.nil _ _ rfl rfl, New.nil _, New.nil _, HB.out⟩
  · have h1 : (s.size : Int) < at_ := by omega
    clear h
    go_enter Try.func13, Try.ntmps13
    go_wp2_with (refine wpList_store_row rfl 26 _ _ rfl w.heap.size _ rfl rfl 26 _ hn (by kernel_rfl) rfl (by simp [recCells, Value.oneCell']) ?_)
    refine bodyPost_ret (results_tt rfl _ _ w.heap.size 26 (recCells .nil (.slice none 0 0) (.slice none 0 0)) _ rfl (hn.setRow _) Try.underlying26 rfl (by kernel_rfl)) rfl ?_
    exact ⟨_, _, rfl, Lists.nil _ _ rfl rfl, New.nil _, New.nil _, HB.out⟩

abbrev nilRow : Array Value := recCells .nil (.slice none 0 0) (.slice none 0 0)
theorem RS.start {w w1 : World} {x y : Rin} (hx : x.s.length ≤ maxLen) {n : Nat} (hy : y = x.rest n) (hb : Blk w1 (w.heap.size + 1) 84 (inV y)) (ho : Only (· = w.heap.size + 1) ((w.alloc (.cells nilRow 26)).alloc (.cells (inV x) 84)) w1) (kd : Int) :
    RS w ((w1.alloc (.cells nilRow 26)).setRow w1.heap.size (recCells { Rc.nil with kind := kd } (.slice none 0 0) (.slice none 0 0))) (w.heap.size + 1) w1.heap.size w.heap.size y { Rc.nil with kind := kd } (.slice none 0 0) (.slice none 0 0) := by
  have hsz := ho.size
  simp only [World.size_alloc] at hsz
  have b0 : Blk w1 w.heap.size 26 nilRow := ho.blk ((Blk.new w 26 nilRow).alloc _) (by omega)
  have hB : Below w.heap.size w w1 := ho.below (((Below.refl _ _).alloc (Nat.le_refl _) _).alloc (by simp) _) (by simp; omega) fun b e => by omega
  have hB2 := (hB.alloc (by omega) (.cells nilRow 26))
  exact ⟨(hb.alloc _).farRow (by omega) _, (Blk.new w1 _ _).setRow _, (b0.alloc _).farRow (by omega) _, by omega, by omega, by omega, below_setRow hB2 (by omega) _, World.ownsRow_nil _ _ _ _, World.ownsRow_nil _ _ _ _, by rw [hy]; exact Nat.le_trans (x.rest_le n) hx⟩
end Go.Proofs.Ytopihafmajadfaa
