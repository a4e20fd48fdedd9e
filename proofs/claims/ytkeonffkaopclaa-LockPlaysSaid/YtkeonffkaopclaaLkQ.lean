/- The statement LockPlays, walked. -/
import Derived.Test.YtkeonffkaopclaaLkP
import Derived.Deep.DeepCutAuto
import Derived.Deep.CutBlock
import Derived.Deep.RegionHeld3
namespace Go.Proofs.Ytkeonffkaopclaa
open Go.RowKit

theorem own_reads9 {w : World} {base n : Nat} {e : TypeId} {v : Value} {xs : List Value} (h : w.ownsRow base e 1 v n xs) : Reads w v xs := by
  have hl := h.1
  rcases own_any h with ⟨rfl, _, rfl⟩ | ⟨g, cap, rfl, h1, _⟩
  · exact Reads.empty _ _ _
  · have e : xs.length = n := by simpa using hl
    subst e
    exact Reads.mk' h1 fun j x hj => by
      have hlt : j < xs.length := by
        rcases Nat.lt_or_ge j xs.length with k | k
        · exact k
        · rw [List.getElem?_eq_none k] at hj; cases hj
      rw [Nat.zero_add]
      exact (h.cellAt j (by omega)).trans hj
/-- A copy beside the table that it was made of. -/
structure SideK (w0 w : World) (F : Foot) (q : Nat) (S : Lk) (F' : Foot) (c : Nat) (S' : Lk) (G : Foot) (g : Nat) (l : List R9) (x : Nat) (o : Op9) : Prop where
  box : BoxK w0 w F' c S' G g l x o
  side : IsLock w F q S
  sF : ∀ b, F' b → ¬ F b
  sG : ∀ b, G b → ¬ F b
  sx : ¬ F x
  sN : ∀ b, F b → w0.heap.size ≤ b
namespace SideK
variable {w0 w w' : World} {F F1 F' G : Foot} {q c g x : Nat} {S S1 S' : Lk} {l : List R9} {o : Op9}
theorem step (h : SideK w0 w F q S F' c S' G g l x o) (hl : IsLock w' F1 q S1) (hs : Step F F1 w w') : SideK w0 w' F1 q S1 F' c S' G g l x o := by
  obtain ⟨a1, a2⟩ := h.box.live.lock.apart hs h.sF
  obtain ⟨b1, b2⟩ := h.box.rows.apart hs h.sG
  exact ⟨⟨⟨a1, h.box.live.newF, hs.belowB h.sN h.box.live.below h.box.live.below.size⟩, b1, h.box.far, h.box.newG, (hs.block x h.box.box.lt h.sx).trans h.box.box, h.box.xF, h.box.xG⟩, hl, a2, b2,
    fun hF => (hs.foot x hF).elim h.sx (fun k => by have := h.box.box.lt; omega), fun b hb => (hs.foot b hb).elim (h.sN b) fun k => Nat.le_trans h.box.live.below.size k⟩
theorem make (h : BoxK w0 w F q S G g l x o) : Calls Try.prog 16 #[.pointer (some ⟨q, 0, none⟩)] w fun e w' => ∃ c F', e = .returned (.pointer (some ⟨c, 0, none⟩)) ∧ SideK w0 w' F q S F' c S G g l x o := by
  refine (lkCopy_any h.live.lock).mono ?_
  rintro e w1 ⟨c, F1, rfl, hl, hn, hb⟩
  have h1 := h.more hb
  have hx := h.box.lt
  exact ⟨c, F1, rfl, ⟨⟨hl, fun b hb' => Nat.le_trans h.live.below.size (hn b hb'), h1.live.below⟩, h1.rows, fun b hb' hG => by have := h.rows.lt b hG; have := hn b hb'; omega, h.newG, h1.box, fun hF => by have := hn x hF; omega, h.xG⟩,
    h1.live.lock, fun b hb' hF => by have := h.live.lock.lt b hF; have := hn b hb'; omega, fun b hG hF => h.far b hF hG, h.xF, h.live.newF⟩
theorem take (h : SideK w0 w F q S F' c S' G g l x o) (t p m : Int) : Calls Try.prog 10 #[.pointer (some ⟨q, 0, none⟩), .int .i64 t, .int .i64 p, .int .i64 m] w fun e w' => e = .returned (.int .i64 (S.may t p m)) ∧ ∃ F1, SideK w0 w' F1 q (S.take t p m) F' c S' G g l x o := by
  refine (lkTake_any h.side t p m).mono ?_
  rintro e w1 ⟨F1, rfl, hl, hs⟩
  exact ⟨rfl, F1, h.step hl hs⟩
theorem free (h : SideK w0 w F q S F' c S' G g l x o) (t : Int) : Calls Try.prog 12 #[.pointer (some ⟨q, 0, none⟩), .int .i64 t] w fun e w' => e = .returned (.int .i64 (S.pages t).length) ∧ ∃ F1, SideK w0 w' F1 q (S.free t) F' c S' G g l x o := by
  refine (lkFree_any h.side t).mono ?_
  rintro e w1 ⟨F1, rfl, hl, hs⟩
  exact ⟨rfl, F1, h.step hl hs⟩
end SideK
set_option maxRecDepth 100000 in
set_option maxHeartbeats 16000000 in
theorem walkLockPlays (v : Value) (ops : List Op9) (w : World) (hr : IsOps9 w v ops) :
    Calls Try.prog 3 #[v] w fun e w' => e = .returned (.bool true) ∧ Below w.heap.size w w' := by
  have HV := Lib.hid hr
  obtain ⟨a, cap, rfl, h1, h2, _⟩ := hr
  have hlm : (ops.length : Int) ≤ 9223372036854775807 := by unfold maxLen at h2; omega
  clear h1 h2
  go_enter Try.func3, Try.ntmps3
  go_wp2_with fail
  refine (awake9 _).mono ?_
  rintro e w1 ⟨rfl, hb⟩
  have HB := Lib.hid hb
  clear hb
  by_cases h3 : (300 : Int) < ops.length
  · go_wp2_with fail
    refine (awake9 _).mono ?_
    rintro e w2 ⟨rfl, hb⟩
    have HB2 := Lib.hid (below2 HB.out hb)
    clear hb
    go_wp2
    go_ret
    exact ⟨rfl, HB2.out⟩
  have H300 : Hid (ops.length ≤ 300) := by unfold Hid; omega
  go_wp2_with fail
  refine (LiveK.make HB.out).mono ?_
  rintro e w2 ⟨F0, q0, rfl, L0⟩
  have hg := Blk.new w2 29 #[.slice none 0 0]
  have hbg := (Below.refl w2.heap.size w2).alloc (Nat.le_refl _) (.cells #[.slice none 0 0] 29)
  have HL0 := Lib.hid (L0.more hbg)
  have HR0 : Hid (IsR9 (w2.alloc (.cells #[.slice none 0 0] 29)) (fun b => b = w2.heap.size) w2.heap.size []) :=
    ⟨⟨_, hg, ⟨rfl, .inl ⟨rfl, rfl⟩⟩, fun b hb => by simp [Value.ownBlock] at hb⟩, rfl, fun b hb => by subst hb; simp⟩
  have HF0 : Hid (∀ b, F0 b → ¬ b = w2.heap.size) := fun b hb e => by have := L0.lock.lt b hb; omega
  have HN0 : Hid (w.heap.size ≤ w2.heap.size) := L0.below.size
  clear hg hbg L0
  go_wp2
  go_loopw [3, 23] (fun s3 i wr => ∃ (k : Nat) (q : Nat) (F : Foot) (S : Lk) (G : Foot) (l : List R9), k ≤ ops.length ∧ i = .int .i64 k ∧ s3 = .pointer (some ⟨q, 0, none⟩) ∧ LiveK w wr F q S ∧ IsR9 wr G w2.heap.size l ∧ (∀ b, F b → ¬ G b) ∧ (∀ b, G b → w.heap.size ≤ b) ∧ Agree S l ∧ l.length ≤ k) (fun _ i _ => (ops.length - intOf i).toNat)
  case atStart => exact ⟨0, q0, F0, Lk.empty, _, [], Nat.zero_le _, rfl, rfl, HL0.out, HR0.out, HF0.out, fun b hb => by subst hb; exact HN0.out, Agree.empty, Nat.le_refl _⟩
  case round =>
    obtain ⟨k, q, F, S, G, l, hk, rfl, rfl, hL, hR, hFG, hGN, hA, hlk⟩ := hrel
    by_cases hlt : k < ops.length
    · have HLT := Lib.hid hlt
      obtain ⟨b, off, cap', hva, _, _, hbw, hel⟩ := HV.out.at_ (by omega)
      cases hva
      obtain ⟨hwf, hc⟩ := hel k hlt
      obtain ⟨c0, c1, c2, c3⟩ := hc.keep hL.below
      generalize ops[k] = o at *
      clear hel hc hwf HL0 HR0 HF0 HN0
      have x := Blk.new wr 31 (op9Cells o)
      have hbx := (Below.refl wr.heap.size wr).alloc (Nat.le_refl _) (.cells (op9Cells o) 31)
      have bk : BoxK w (wr.alloc (.cells (op9Cells o) 31)) F q S G w2.heap.size l wr.heap.size o :=
        ⟨hL.more hbx, hR.below hbx, hFG, hGN, x, fun hF => by have := hL.lock.lt _ hF; omega, fun hG => by have := hR.lt _ hG; omega⟩
      have HBK := Lib.hid bk
      have HA := Lib.hid hA
      have HLK := Lib.hid hlk
      clear bk hA hlk hL hR hFG hGN hbx x
      go_upto_region 7 with fail
      change Code.wp _ _ _ _ (wr.alloc (.cells (op9Cells o) 31))
      generalize wr.alloc (.cells (op9Cells o) 31) = w3 at *
      generalize wr.heap.size = x at *
      clear c0 c1 c2 c3
      have e0 : w3.cell? ⟨x, 0, none⟩ = some (.int .i64 o.kind) := HBK.out.box.cell 0
      go_upto_block 2 with fail
      clear e0
      go_cut [3, 7, 23] from 23 to 117 (fun s3 s7 s23 wx => s23 = .int .i64 k ∧ ∃ (q : Nat) (F : Foot) (S : Lk) (G : Foot) (l : List R9), s3 = .pointer (some ⟨q, 0, none⟩) ∧ BoxK w wx F q S G w2.heap.size l x o ∧ Agree S l ∧ l.length ≤ k + 1)
      case first =>
        by_cases k1 : o.kind = 1
        · have k1' : (o.kind == 1) = true := by simpa using k1
          clear k1
          go_upto_region 13 with fail
          have td := HBK.out.more (Below.refl _ _).drew
          have b1 := td.box.cell 1
          have b2 := td.box.cell 2
          have b3 := td.box.cell 3
          simp [op9Cells] at b1 b2 b3
          go_region_held3 (fun W => W.cell? ⟨x, 1, none⟩ = some (.int .i64 o.txn) ∧ W.cell? ⟨x, 2, none⟩ = some (.int .i64 o.page) ∧ W.cell? ⟨x, 3, none⟩ = some (.int .i64 o.mode)) (first | exact ⟨b1, b2, b3⟩ | exact ⟨c1, c2, c3⟩ | exact ⟨d1, d2, d3⟩) (first
            | (go_at_call 10; refine (td.take1 o.txn o.page o.mode).mono ?_; rintro e w8 ⟨rfl, F8, T8⟩; have c1 := T8.box.cell 1; have c2 := T8.box.cell 2; have c3 := T8.box.cell 3)
            | (go_at_call 11; refine (T8.take2 (by have := HLK.out; have := H300.out; omega) o.txn o.page o.mode _ (HA.out.may _ _ _)).mono ?_; rintro e w9 ⟨rfl, G9, T9⟩; have d1 := T9.box.cell 1; have d2 := T9.box.cell 2; have d3 := T9.box.cell 3))
          have HA2 := Lib.hid (HA.out.take HBK.out.live.lock.1 o.txn o.page o.mode)
          have HL2 : Hid ((takeR l o.txn o.page o.mode).length ≤ k + 1) := Nat.le_trans (takeR_len _ _ _ _) (by have := HLK.out; omega)
          have HT9 := Lib.hid T9
          clear T8 T9 td b1 b2 b3 c1 c2 c3 d1 d2 d3
          go_wp2_with fail
          go_meet
          exact ⟨rfl, _, _, _, _, _, rfl, HT9.out, HA2.out, HL2.out⟩
        have k1' : (o.kind == 1) = false := by simpa using k1
        clear k1
        by_cases k2 : o.kind = 2
        · have k2' : (o.kind == 2) = true := by simpa using k2
          clear k2
          go_upto_region 16 with fail
          have td := HBK.out.more (Below.refl _ _).drew
          have b1 := td.box.cell 1
          simp [op9Cells] at b1
          have hl8 : (S.pages o.txn).length ≤ 8 := pagesTo_le S o.txn 8
          go_region_held3 (fun W => W.cell? ⟨x, 1, none⟩ = some (.int .i64 o.txn)) (assumption) (first
            | (go_at_call 12; refine (td.free1 o.txn).mono ?_; rintro e w8 ⟨rfl, F8, T8⟩; have c1 := T8.box.cell 1)
            | (go_at_call 13; refine (T8.free2 (by have := HLK.out; have := H300.out; omega) o.txn _ (HA.out.count _)).mono ?_; rintro e w9 ⟨rfl, G9, T9⟩; have d1 := T9.box.cell 1))
          have HA2 := Lib.hid (HA.out.free HBK.out.live.lock.1 o.txn)
          have HL2 : Hid ((freeR l o.txn).length ≤ k + 1) := Nat.le_trans (freeR_le _ _) (by have := HLK.out; omega)
          have HT9 := Lib.hid T9
          clear T8 T9 td b1 c1 d1
          go_wp2_with fail
          go_meet
          exact ⟨rfl, _, _, _, _, _, rfl, HT9.out, HA2.out, HL2.out⟩
        have k2' : (o.kind == 2) = false := by simpa using k2
        clear k2
        by_cases k3 : o.kind = 3
        · have k3' : (o.kind == 3) = true := by simpa using k3
          clear k3
          go_upto_region 19 with fail
          have td := HBK.out.more (Below.refl _ _).drew
          have b1 := td.box.cell 1
          have b2 := td.box.cell 2
          have b3 := td.box.cell 3
          simp [op9Cells] at b1 b2 b3
          go_region_held3 (fun W => W.cell? ⟨x, 1, none⟩ = some (.int .i64 o.txn) ∧ W.cell? ⟨x, 2, none⟩ = some (.int .i64 o.page) ∧ W.cell? ⟨x, 3, none⟩ = some (.int .i64 o.mode)) (first | exact ⟨b1, b2, b3⟩ | exact ⟨c1, c2, c3⟩ | exact ⟨d1, d2, d3⟩) (first
            | (go_at_call 14; refine (td.may1 o.txn o.page o.mode).mono ?_; rintro e w8 ⟨rfl, T8⟩; have c1 := T8.box.cell 1; have c2 := T8.box.cell 2; have c3 := T8.box.cell 3)
            | (go_at_call 15; refine (T8.may2 o.txn o.page o.mode _ (HA.out.may _ _ _)).mono ?_; rintro e w9 ⟨rfl, T9⟩; have d1 := T9.box.cell 1; have d2 := T9.box.cell 2; have d3 := T9.box.cell 3))
          have HL2 : Hid (l.length ≤ k + 1) := by have := HLK.out; unfold Hid; omega
          have HT9 := Lib.hid T9
          clear T8 T9 td b1 b2 b3 c1 c2 c3 d1 d2 d3
          go_wp2_with fail
          go_meet
          exact ⟨rfl, _, _, _, _, _, rfl, HT9.out, HA.out, HL2.out⟩
        have k3' : (o.kind == 3) = false := by simpa using k3
        clear k3
        have HL2 : Hid (l.length ≤ k + 1) := by have := HLK.out; unfold Hid; omega
        go_wp2_with fail
        refine (SideK.make HBK.out).mono ?_
        rintro e w8 ⟨c, F8, rfl, T8⟩
        have HT8 := Lib.hid T8
        clear T8
        go_wp2_with fail
        refine (HT8.out.take 9 1 2).mono ?_
        rintro e w9 ⟨rfl, F9, T9⟩
        have HT9 := Lib.hid T9
        clear T9 HT8
        go_wp2_with fail
        refine (HT9.out.free 1).mono ?_
        rintro e w10 ⟨rfl, F10, T10⟩
        have HT10 := Lib.hid T10.box
        clear T10 HT9
        go_wp2_with fail
        go_meet
        exact ⟨rfl, _, _, _, _, _, rfl, HT10.out, HA.out, HL2.out⟩
      obtain ⟨rfl, q2, F2, S2, G2, l2, rfl, hbk, hA2, hl2⟩ := hcut
      have HBK2 := Lib.hid hbk
      have HA2 := Lib.hid hA2
      have HL2 := Lib.hid hl2
      clear hbk hA2 hl2 HBK HA HLK
      obtain ⟨i0, hi, hz0, hz1, hz2⟩ := info_parts info_int9
      go_wp2
      go_loopw [8, 9] (fun v i wr => ∃ j : Nat, j ≤ 10 ∧ i = .int .i64 ((j : Int) - 1) ∧ wr.ownsRow wc.heap.size 3 1 v (S2.pagesTo o.txn (min (j - 1) 8)).length (numsV (S2.pagesTo o.txn (min (j - 1) 8))) ∧ Below wc.heap.size wc wr) (fun _ i _ => (9 - intOf i).toNat)
      case atStart => exact ⟨0, by omega, rfl, ⟨rfl, .inl ⟨rfl, rfl⟩⟩, Below.refl _ _⟩
      case round =>
        obtain ⟨j, hj, rfl, hown, hBW⟩ := hrel
        have hbk := HBK2.out.more hBW
        by_cases hj9 : j ≤ 9
        · have hb0 := hbk.live.below.size
          have HO := Lib.hid hown
          have HBK3 := Lib.hid hbk
          have HBW := Lib.hid hBW
          have HJ := Lib.hid hj9
          have hi1 : (j : Int) - 1 ≤ 8 := by omega
          have HMY : Hid (0 < S2.mode o.txn ((j : Int) - 1) → 1 ≤ j ∧ j ≤ 8 ∧ S2.pagesTo o.txn (min (j + 1 - 1) 8) = S2.pagesTo o.txn (min (j - 1) 8) ++ [j - 1]) := fun h => by
            unfold Lk.mode at h
            by_cases hc : 0 ≤ (j : Int) - 1 ∧ (j : Int) - 1 < 8 ∧ o.txn ∈ (S2 ((j : Int) - 1).toNat).who
            · have e : ((j : Int) - 1).toNat = j - 1 := by omega
              rw [e] at hc
              refine ⟨by omega, by omega, ?_⟩
              have := pagesTo_yes hc.2.2
              rw [show j - 1 + 1 = j from by omega] at this
              rw [show min (j + 1 - 1) 8 = j from by omega, show min (j - 1) 8 = j - 1 from by omega, this]
            · rw [if_neg hc] at h; omega
          have HMN : Hid (¬ 0 < S2.mode o.txn ((j : Int) - 1) → S2.pagesTo o.txn (min (j + 1 - 1) 8) = S2.pagesTo o.txn (min (j - 1) 8)) := fun h => by
            by_cases hjr : 1 ≤ j ∧ j ≤ 8
            · have hno : o.txn ∉ (S2 (j - 1)).who := fun hin => h (by
                have e : ((j : Int) - 1).toNat = j - 1 := by omega
                rw [mode_in (by omega) (by omega), e, if_pos hin]
                split <;> decide)
              have := pagesTo_no hno
              rw [show j - 1 + 1 = j from by omega] at this
              rw [show min (j + 1 - 1) 8 = j from by omega, show min (j - 1) 8 = j - 1 from by omega, this]
            · congr 1
              omega
          have hwi : IntKind.i64.wrap ((j : Int) - 1 + 1) = (j : Int) - 1 + 1 := IntWalk.i64_in _ (by omega)
          have hjn : 0 < S2.mode o.txn ((j : Int) - 1) → (j : Int) - 1 = ((j - 1 : Nat) : Int) := fun h => by have := (HMY.out h).1; omega
          have HJN := Lib.hid hjn
          have HNX : Hid ((j : Int) - 1 + 1 = ((j + 1 : Nat) : Int) - 1) := by unfold Hid; omega
          have HMS : Hid ((9 - ((j : Int) - 1 + 1)).toNat < (9 - ((j : Int) - 1)).toNat) := by unfold Hid; omega
          clear hown hbk hBW hb0 hj9 hj hjn
          generalize (j : Int) - 1 = ii at *
          go_upto_region 25 with fail
          have td := HBK3.out.more (Below.refl _ _).drew
          have b1 := td.box.cell 1
          simp [op9Cells] at b1
          go_region_held3 (fun W => W.cell? ⟨x, 1, none⟩ = some (.int .i64 o.txn)) (assumption) (first
            | (go_at_call 17; refine (td.mode1 o.txn ii).mono ?_; rintro e w8 ⟨rfl, T8, hb8⟩; have c1 := T8.box.cell 1)
            | (go_at_call 18; refine (T8.mode2 o.txn ii _ (HA2.out.mode _ _)).mono ?_; rintro e w9 ⟨rfl, rfl⟩))
          have HT8 := Lib.hid T8
          have d1 : w8.cell? ⟨x, 1, none⟩ = some (.int .i64 o.txn) := T8.box.cell 1
          have HO8 := Lib.hid (own_below HO.out ((Below.refl wr.heap.size wr).drew.trans hb8))
          have HBW8 := Lib.hid (below2 HBW.out ((Below.refl wr.heap.size wr).drew.trans hb8))
          have HSZ8 := Lib.hid HBW8.out.size
          clear T8 td b1 c1 hb8 HO HBW
          go_wp2_with fail
          refine (HT8.out.mode2 o.txn ii _ (HA2.out.mode _ _)).mono ?_
          rintro e w9 ⟨rfl, rfl⟩
          generalize hmd : S2.mode o.txn ii = md at *
          by_cases hpos : 0 < md
          · obtain ⟨j1, j8, hpg⟩ := HMY.out hpos
            have HPG := Lib.hid hpg
            have HJJ := Lib.hid (HJN.out hpos)
            have HL8 := Lib.hid (pagesTo_le S2 o.txn (min (j - 1) 8))
            have HM63 : (S2.pagesTo o.txn (min (j - 1) 8)).length + 1 ≤ maxLen := by have := HL8.out; unfold maxLen; omega
            have HM47 : ((S2.pagesTo o.txn (min (j - 1) 8)).length + 1) * 8 ≤ 140737488355328 := by have := HL8.out; omega
            have HBS : wc.heap.size ≤ (w8.alloc (.cells #[.int .i64 ii] 3)).heap.size := by have := HSZ8.out; simp; omega
            clear hpg j1 j8 HMY HMN HJN hmd
            go_wp2_with (at_builtin; refine wpList_append_own _ rfl (.tmp 106) (.tmp 108) 36 rfl wc.heap.size 3 i0 (.int .i64 0) 1 8 Try.underlying36 hi hz0 hz1 hz2 rfl (by decide) _ _ _ rfl (HO8.out.alloc _) ⟨w8.heap.size, 0, none⟩ 1 1 [_] rfl rfl (int_news _ _) (int_one _) HM63 HM47 HBS ?_)
            intro v' w9 hown' hgrow _
            have HBW9 := Lib.hid ((HBW8.out.alloc HSZ8.out (.cells #[.int .i64 ii] 3)).grown hgrow (by have := HSZ8.out; simp; omega) (fun k hk => (HO8.out.lt k hk).1))
            have HO9 : Hid (w9.ownsRow wc.heap.size 3 1 v' (S2.pagesTo o.txn (min (j + 1 - 1) 8)).length (numsV (S2.pagesTo o.txn (min (j + 1 - 1) 8)))) := by
              unfold Hid
              rw [HPG.out, List.length_append, ← numsV_snoc, ← HJJ.out]
              exact hown'
            clear hown' hgrow HO8 HM63 HM47 HBS
            go_wp2
            exact ⟨⟨j + 1, by have := HJ.out; omega, by rw [← HNX.out], HO9.out, HBW9.out⟩, by simp only [intOf]; exact HMS.out⟩
          · have HPG := Lib.hid (HMN.out (by omega))
            clear HMY HMN HJN hmd
            go_wp2
            exact ⟨⟨j + 1, by have := HJ.out; omega, by rw [← HNX.out], by rw [HPG.out]; exact HO8.out, HBW8.out⟩, by simp only [intOf]; exact HMS.out⟩
        · obtain rfl : j = 10 := by omega
          have HBK3 := Lib.hid hbk
          have b1 : wr.cell? ⟨x, 1, none⟩ = some (.int .i64 o.txn) := hbk.box.cell 1
          obtain ⟨ah, ch, rfl⟩ := own_slice' hown
          have HRD := Lib.hid (own_reads9 hown)
          have hl8 : Hid ((S2.pages o.txn).length ≤ 8) := pagesTo_le S2 o.txn 8
          have hpe : S2.pagesTo o.txn (min (10 - 1) 8) = S2.pages o.txn := rfl
          rw [hpe] at HRD ⊢
          clear hown hbk hBW hpe
          go_wp2_with fail
          refine (HBK3.out.live.pages o.txn).mono ?_
          rintro e w8 ⟨a8, c8, rfl, R8, -, hb8⟩
          have HR8 := Lib.hid R8
          have HH8 := Lib.hid (HRD.out.keep hb8)
          have HT8 := Lib.hid (HBK3.out.more hb8)
          clear R8 hb8 HRD HBK3 b1
          go_wp2_with fail
          refine (refSame9_any _ _ _ _ _ HR8.out HH8.out (by have := hl8.out; omega)).mono ?_
          rintro e w9 ⟨rfl, hb9⟩
          have HT9 := Lib.hid (HT8.out.more hb9)
          clear hb9 HT8 HR8 HH8
          go_wp2
          exact ⟨⟨k + 1, q2, F2, S2, G2, l2, HLT.out, by go_num, rfl, HT9.out.live, HT9.out.rows, HT9.out.far, HT9.out.newG, HA2.out, HL2.out⟩, by simp [intOf]; have := HLT.out; omega⟩
    · obtain rfl : k = ops.length := by omega
      have HL := Lib.hid hL.below
      clear hL hR hFG hGN hA hlk HL0 HR0 HF0 HN0
      go_wp2
      go_ret
      exact ⟨rfl, HL.out⟩
end Go.Proofs.Ytkeonffkaopclaa
