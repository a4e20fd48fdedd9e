/- Stage 11: awake: what the document fixes. -/
import Derived.Test.YtecalnglidjmgaaChN
namespace Go.Proofs.Ytecalnglidjmgaa
open Go.RowKit

/-- An update of 1. -/
def upR (p : Int) : Rc := ⟨1, 1, 0, 0, p, 0, 0, ⟨#[97]⟩, ⟨#[98]⟩, [], []⟩
theorem lawUp (p : Int) (w : World) : Calls Try.prog 19 #[.int .i64 p] w fun e w' => e = .returned (.agg #[.int .i64 1, .int .i64 1, .int .i64 0, .int .i64 0, .int .i64 p, .int .i64 0, .int .i64 0, .string ⟨#[97]⟩, .string ⟨#[98]⟩, .slice none 0 0, .slice none 0 0]) ∧ Below w.heap.size w w' := by
  go_enter Try.func19, Try.ntmps19
  go_wp2
  exact bodyPost_ret (results_cell_row rfl _ _ w.heap.size 45 _ (0, 0) _ rfl (Blk.new _ _ _) Try.underlying45 rfl (by kernel_rfl)) rfl ⟨rfl, (Below.refl _ _).alloc (Nat.le_refl _) _⟩
def l3 : List En := [(128, upR 0), (150, upR 128), (170, ⟨2, 1, 0, 0, 150, 128, 0, ⟨#[]⟩, ⟨#[97]⟩, [], []⟩)]
theorem l3_rises : Ch.Rises l3 := by decide
theorem l3_a : Ch.at_ l3 1 170 = (⟨2, 1, 0, 0, 150, 128, 0, ⟨#[]⟩, ⟨#[97]⟩, [], []⟩, 0) := by decide
theorem l3_b : Ch.at_ l3 1 150 = (upR 128, 0) := by decide
theorem l3_c : Ch.at_ l3 1 128 = (upR 0, 0) := by decide
theorem l3_d : Ch.at_ l3 2 170 = (⟨2, 1, 0, 0, 150, 128, 0, ⟨#[]⟩, ⟨#[97]⟩, [], []⟩, 1) := by decide
theorem l3_e : Ch.at_ l3 1 171 = (Rc.nil, 7) := by decide
theorem l3_f (stop : Int → Bool) (h1 : stop 170 = false) (h2 : stop 128 = false) (h3 : stop 0 = true) : Ch.follow l3 1 true stop 170 = ([(170, ⟨2, 1, 0, 0, 150, 128, 0, ⟨#[]⟩, ⟨#[97]⟩, [], []⟩), (128, upR 0)], 0) := by
  rw [Ch.follow_step h1 l3_a]
  rw [show Ch.nxt true (⟨2, 1, 0, 0, 150, 128, 0, ⟨#[]⟩, ⟨#[97]⟩, [], []⟩ : Rc) = 128 from rfl, Ch.follow_step h2 l3_c, show Ch.nxt true (upR 0) = 0 from rfl, Ch.follow_stop h3]
theorem l3_g : Ch.follow l3 1 false Ch.st0 170 = ([(170, ⟨2, 1, 0, 0, 150, 128, 0, ⟨#[]⟩, ⟨#[97]⟩, [], []⟩), (150, upR 128), (128, upR 0)], 0) := by
  rw [Ch.follow_step (by rfl) l3_a, show Ch.nxt false (⟨2, 1, 0, 0, 150, 128, 0, ⟨#[]⟩, ⟨#[97]⟩, [], []⟩ : Rc) = 150 from rfl, Ch.follow_step (by rfl) l3_b, show Ch.nxt false (upR 128) = 128 from rfl, Ch.follow_step (by rfl) l3_c, show Ch.nxt false (upR 0) = 0 from rfl, Ch.follow_stop (by rfl)]
theorem l3_stand : Ch.stand l3 1 170 = ([128], 0) := by
  have e := l3_f Ch.st0 rfl rfl rfl
  rw [Ch.stand_mk l3_rises (by rw [e]), e]
  rfl
theorem l3_undo : Ch.undo l3 1 170 0 = ([Rc.und 1 0 0 0 0 ⟨#[97]⟩], 0) := by
  have e := l3_f (Ch.stS 0) rfl rfl rfl
  rw [Ch.undo_mk l3_rises (by rw [e]), e]
  rfl
theorem l3_chain : Ch.chain l3 1 170 = ([170, 150, 128], 0) := by
  unfold Ch.chain
  rw [if_neg (by simp [l3_rises]), l3_g]
  rfl
theorem l3_stand2 : Ch.stand l3 2 170 = ([], 1) := by
  have e : Ch.follow l3 2 true Ch.st0 170 = ([], 1) := Ch.follow_err (by rfl) l3_d (by decide)
  unfold Ch.stand
  rw [if_neg (by simp [l3_rises]), e]
  rfl
theorem l3_stand3 : Ch.stand l3 1 171 = ([], 7) := by
  have e : Ch.follow l3 1 true Ch.st0 171 = ([], 7) := Ch.follow_err (by rfl) l3_e (by decide)
  unfold Ch.stand
  rw [if_neg (by simp [l3_rises]), e]
  rfl
def l3V : Array Value := #[.int .i64 128, .int .i64 1, .int .i64 1, .int .i64 0, .int .i64 0, .int .i64 0, .int .i64 0, .int .i64 0, .string ⟨#[97]⟩, .string ⟨#[98]⟩, .slice none 0 0, .slice none 0 0,
  .int .i64 150, .int .i64 1, .int .i64 1, .int .i64 0, .int .i64 0, .int .i64 128, .int .i64 0, .int .i64 0, .string ⟨#[97]⟩, .string ⟨#[98]⟩, .slice none 0 0, .slice none 0 0,
  .int .i64 170, .int .i64 2, .int .i64 1, .int .i64 0, .int .i64 0, .int .i64 150, .int .i64 128, .int .i64 0, .string ⟨#[]⟩, .string ⟨#[97]⟩, .slice none 0 0, .slice none 0 0]
theorem lt12 {P : Nat → Prop} (h : P 0 ∧ P 1 ∧ P 2 ∧ P 3 ∧ P 4 ∧ P 5 ∧ P 6 ∧ P 7 ∧ P 8 ∧ P 9 ∧ P 10 ∧ P 11) : ∀ i, i < 12 → P i := fun i hi => by
  obtain ⟨h0, h1, h2, h3, h4, h5, h6, h7, h8, h9, h10, h11⟩ := h
  match i, hi with
  | 0, _ => exact h0
  | 1, _ => exact h1
  | 2, _ => exact h2
  | 3, _ => exact h3
  | 4, _ => exact h4
  | 5, _ => exact h5
  | 6, _ => exact h6
  | 7, _ => exact h7
  | 8, _ => exact h8
  | 9, _ => exact h9
  | 10, _ => exact h10
  | 11, _ => exact h11
theorem l3_ents {w : World} {g : Nat} (h : Blk w g 47 l3V) : IsEnts w (.slice (some ⟨g, 0, none⟩) 3 3) l3 := by
  have hc : ∀ i, w.cell? ⟨g, i, none⟩ = l3V[i]? := fun i => h.cell i
  have hl : ∀ r : Rc, r.txns = [] → r.pages = [] → Lists w r (.slice none 0 0) (.slice none 0 0) := fun r h1 h2 => Lists.nil w r h1 h2
  have rows : ∀ (k : Nat) (x : En), (∀ i, i < 12 → (entCells x.1 x.2 (.slice none 0 0) (.slice none 0 0))[i]? = l3V[k * 12 + i]?) → w.cell? ⟨g, 0 + k * 12, none⟩ = some (.int .i64 x.1) ∧ ∀ i u, (recCells x.2 (.slice none 0 0) (.slice none 0 0))[i]? = some u → w.cell? ⟨g, 0 + k * 12 + 1 + i, none⟩ = some u := fun k x hk => by
    refine ⟨?_, fun i u hi => ?_⟩
    · rw [hc, Nat.zero_add]
      exact (hk 0 (by omega)).symm
    · have hi2 : i < 11 := by
        have := (Array.getElem?_eq_some_iff.1 hi).1
        rwa [recCells_size] at this
      rw [hc, show 0 + k * 12 + 1 + i = k * 12 + (i + 1) by omega, ← hk (i + 1) (by omega), ← hi]
      rw [← Array.getElem?_toList, ← Array.getElem?_toList]
      rfl
  refine ⟨some ⟨g, 0, none⟩, 3, rfl, Nat.le_refl _, by unfold maxLen; decide, fun j hj => ?_⟩
  match j, hj with
  | 0, _ =>
    obtain ⟨h1, h2⟩ := rows 0 (128, upR 0) (lt12 ⟨rfl, rfl, rfl, rfl, rfl, rfl, rfl, rfl, rfl, rfl, rfl, rfl⟩)
    exact ⟨g, 0, .slice none 0 0, .slice none 0 0, rfl, h.lt, h1, h2, hl _ rfl rfl⟩
  | 1, _ =>
    obtain ⟨h1, h2⟩ := rows 1 (150, upR 128) (lt12 ⟨rfl, rfl, rfl, rfl, rfl, rfl, rfl, rfl, rfl, rfl, rfl, rfl⟩)
    exact ⟨g, 0, .slice none 0 0, .slice none 0 0, rfl, h.lt, h1, h2, hl _ rfl rfl⟩
  | 2, _ =>
    obtain ⟨h1, h2⟩ := rows 2 (170, ⟨2, 1, 0, 0, 150, 128, 0, ⟨#[]⟩, ⟨#[97]⟩, [], []⟩) (lt12 ⟨rfl, rfl, rfl, rfl, rfl, rfl, rfl, rfl, rfl, rfl, rfl, rfl⟩)
    exact ⟨g, 0, .slice none 0 0, .slice none 0 0, rfl, h.lt, h1, h2, hl _ rfl rfl⟩
theorem l3_small : ∀ x ∈ l3, x.2.before.size ≤ 300 := by decide

set_option maxRecDepth 100000 in
set_option maxHeartbeats 8000000 in
theorem awake11 (w : World) : Calls Try.prog 8 #[] w fun e w' => e = .returned (.bool true) ∧ Below w.heap.size w w' := by
  go_enter Try.func8, Try.ntmps8
  go_wp2_with fail
  refine (lawUp 0 w).mono ?_
  rintro e w1 ⟨rfl, hb1⟩
  go_wp2_with fail
  refine (lawUp 128 w1).mono ?_
  rintro e w2 ⟨rfl, hb2⟩
  have HB2 := Lib.hid (below2 hb1 hb2)
  clear hb1 hb2
  go_wp2_with fail
  change Calls _ _ _ (w2.alloc (.cells l3V 47)) _
  have e3 := Blk.new w2 47 l3V
  have b3 : Below w.heap.size w (w2.alloc (.cells l3V 47)) := HB2.out.alloc HB2.out.size _
  have I3 := l3_ents e3
  generalize hw3 : w2.alloc (.cells l3V 47) = w3 at *
  generalize w2.heap.size = g at *
  clear hw3 e3 HB2
  have C1 : Calls Try.prog 12 #[.slice (some ⟨g, 0, none⟩) 3 3, .int .i64 1, .int .i64 170] w3 fun e w' => e = .returned (.tuple #[.int .i64 1, .int .i64 0]) ∧ Below w3.heap.size w3 w' := by
    have h := chLeft I3 (by decide) 1 170
    rw [l3_stand] at h
    exact h
  have HB3 := Lib.hid b3
  have H3 := Lib.hid I3
  clear b3 I3
  refine C1.mono ?_
  clear C1
  rintro e w4 ⟨rfl, hb⟩
  have H4 := Lib.hid (H3.out.keep hb)
  have HB4 := Lib.hid (below2 HB3.out hb)
  clear hb HB3 H3
  go_wp2_with fail
  have C2 := chUndoAll H4.out (by decide) l3_small 1 170 0
  rw [l3_undo] at C2
  refine C2.mono ?_
  clear C2
  rintro e w5 ⟨u, B, rfl, hB, hu, hb⟩
  have eu : RecsE w5 u [Rc.und 1 0 0 0 0 ⟨#[97]⟩] := Elems.ofOwn hu
  obtain ⟨b1, o1, c1, rfl, hc1, lt1, dd⟩ := eu.at_ 0 (by decide)
  have q5 : w5.cell? ⟨b1, o1 + 5, none⟩ = some (.int .i64 0) := dd 5 _ rfl
  have q8 : w5.cell? ⟨b1, o1 + 8, none⟩ = some (.string ⟨#[97]⟩) := dd 8 _ rfl
  have H5 := Lib.hid (H4.out.keep hb)
  have HB5 := Lib.hid (below2 HB4.out hb)
  clear hb HB4 H4 hu hB eu dd
  go_wp2_with fail
  have C3 := chChain H5.out (by decide) 1 170
  rw [l3_chain] at C3
  refine C3.mono ?_
  clear C3
  rintro e w6 ⟨u2, B2, rfl, hB2, hu2, hb⟩
  have e2 : Elems w6 u2 3 (placesV [170, 150, 128]) := Elems.ofOwn hu2
  have p5 := (hb.cell (p := ⟨b1, o1 + 5, none⟩) lt1).trans q5
  have p8 := (hb.cell (p := ⟨b1, o1 + 8, none⟩) lt1).trans q8
  have lt2 := Nat.lt_of_lt_of_le lt1 hb.size
  have H6 := Lib.hid (H5.out.keep hb)
  have HB6 := Lib.hid (below2 HB5.out hb)
  have E6 := Lib.hid e2
  clear hb HB5 H5 hu2 hB2 q5 q8 lt1 e2
  go_wp2_with fail
  have C4 : Calls Try.prog 12 #[.slice (some ⟨g, 0, none⟩) 3 3, .int .i64 2, .int .i64 170] w6 fun e w' => e = .returned (.tuple #[.int .i64 0, .int .i64 1]) ∧ Below w6.heap.size w6 w' := by
    have h := chLeft H6.out (by decide) 2 170
    rw [l3_stand2] at h
    exact h
  refine C4.mono ?_
  clear C4
  rintro e w7 ⟨rfl, hb⟩
  have q5 := (hb.cell (p := ⟨b1, o1 + 5, none⟩) lt2).trans p5
  have q8 := (hb.cell (p := ⟨b1, o1 + 8, none⟩) lt2).trans p8
  have lt3 := Nat.lt_of_lt_of_le lt2 hb.size
  have H7 := Lib.hid (H6.out.keep hb)
  have HB7 := Lib.hid (below2 HB6.out hb)
  have E7 := Lib.hid (E6.out.keep hb)
  clear hb HB6 H6 p5 p8 lt2 E6
  go_wp2_with fail
  have C5 : Calls Try.prog 12 #[.slice (some ⟨g, 0, none⟩) 3 3, .int .i64 1, .int .i64 171] w7 fun e w' => e = .returned (.tuple #[.int .i64 0, .int .i64 7]) ∧ Below w7.heap.size w7 w' := by
    have h := chLeft H7.out (by decide) 1 171
    rw [l3_stand3] at h
    exact h
  refine C5.mono ?_
  clear C5
  rintro e w8 ⟨rfl, hb⟩
  have p5 := (hb.cell (p := ⟨b1, o1 + 5, none⟩) lt3).trans q5
  have p8 := (hb.cell (p := ⟨b1, o1 + 8, none⟩) lt3).trans q8
  have lt4 := Nat.lt_of_lt_of_le lt3 hb.size
  have HB8 := Lib.hid (below2 HB7.out hb)
  have e8 := E7.out.keep hb
  have E8 := Lib.hid e8
  obtain ⟨ua, uc, rfl⟩ := e8.form
  clear hb HB7 H7 q5 q8 lt3 E7 e8
  go_wp2_with fail
  have n8 := Blk.new w8 3 #[.int .i64 170, .int .i64 150, .int .i64 128]
  have bn : Below w8.heap.size w8 (w8.alloc (.cells #[.int .i64 170, .int .i64 150, .int .i64 128] 3)) := (Below.refl _ _).alloc (Nat.le_refl _) _
  have en : Elems (w8.alloc (.cells #[.int .i64 170, .int .i64 150, .int .i64 128] 3)) (.slice (some ⟨w8.heap.size, 0, none⟩) 3 3) 3 (placesV [170, 150, 128]) := ⟨_, _, rfl, Nat.le_refl _, by unfold maxLen; decide, fun j x hj => ⟨_, 0, rfl, by rw [Nat.zero_add, n8.cell j, ← hj, ← List.getElem?_toArray]; rfl⟩⟩
  refine (refSame9P (l := [170, 150, 128]) (E8.out.keep bn) en).mono ?_
  rintro e w9 ⟨rfl, hb⟩
  have HB9 := Lib.hid (below2 (HB8.out.trans (bn.mono HB8.out.size)) hb)
  clear hb bn en n8 HB8 E8
  go_wp2
  go_ret
  exact ⟨rfl, HB9.out⟩
end Go.Proofs.Ytecalnglidjmgaa
