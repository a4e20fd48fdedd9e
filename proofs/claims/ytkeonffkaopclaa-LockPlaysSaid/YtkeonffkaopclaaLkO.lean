/- careenref09: Take, Free. -/
import Derived.Test.YtkeonffkaopclaaLkN
import Derived.Test.YtkeonffkaopclaaLkF
namespace Go.Proofs.Ytkeonffkaopclaa
open Go.RowKit

def maxI (a b : Int) : Int := if a < b then b else a
/-- A row is given; a row that is there gets the greater mode. -/
def setR : List R9 → Int → Int → Int → List R9
  | [], t, p, m => [⟨t, p, m⟩]
  | r :: l, t, p, m => if r.t = t ∧ r.p = p then ⟨r.t, r.p, maxI r.m m⟩ :: l else r :: setR l t p m
theorem setR_at {t p m : Int} : ∀ {l : List R9} {k : Nat} (hk : k < l.length), (∀ r ∈ l.take k, ¬ (r.t = t ∧ r.p = p)) → l[k].t = t ∧ l[k].p = p → setR l t p m = l.set k ⟨l[k].t, l[k].p, maxI l[k].m m⟩
  | [], k, hk, _, _ => by simp at hk
  | r :: l, 0, _, _, h => by
    show (if r.t = t ∧ r.p = p then _ else _) = _
    rw [if_pos (by simpa using h)]
    rfl
  | r :: l, k + 1, hk, hall, h => by
    show (if r.t = t ∧ r.p = p then _ else _) = _
    rw [if_neg (hall r (by simp))]
    have := setR_at (m := m) (l := l) (k := k) (by simpa using hk) (fun x hx => hall x (by rw [List.take_succ_cons]; exact .tail _ hx)) (by simpa using h)
    rw [this]
    rfl
theorem setR_none {t p m : Int} : ∀ {l : List R9}, (∀ r ∈ l, ¬ (r.t = t ∧ r.p = p)) → setR l t p m = l ++ [⟨t, p, m⟩]
  | [], _ => rfl
  | r :: l, hall => by
    show (if r.t = t ∧ r.p = p then _ else _) = _
    rw [if_neg (hall r (by simp)), setR_none fun x hx => hall x (.tail _ hx)]
    rfl
theorem rows9_set (l : List R9) (k : Nat) (h : k < l.length) (x : Int) : rows9 (l.set k ⟨l[k].t, l[k].p, x⟩) = (rows9 l).set (k * 3 + 2) (.int .i64 x) := by
  induction l generalizing k with
  | nil => simp at h
  | cons r l ih =>
    have e : ∀ (r : R9) (l : List R9), rows9 (r :: l) = .int .i64 r.t :: .int .i64 r.p :: .int .i64 r.m :: rows9 l := fun _ _ => rfl
    cases k with
    | zero => simp [e]
    | succ k =>
      have := ih k (by simpa using h)
      rw [show (k + 1) * 3 + 2 = k * 3 + 2 + 1 + 1 + 1 from by omega]
      simp only [List.set_cons_succ, List.getElem_cons_succ, e, this]
def OutR (w : World) (G : Foot) (g : Nat) (l : List R9) (v : Value) (e : Ending) (w' : World) : Prop := ∃ G', e = .returned v ∧ IsR9 w' G' g l ∧ Step G G' w w'
theorem own_base' {w : World} {b0 e size n : Nat} {v : Value} {xs : List Value} (h : w.ownsRow b0 e size v n xs) : w.ownsRow 0 e size v n xs := by
  obtain ⟨hl, h | ⟨g, cap, cur, rfl, hb, h⟩⟩ := h
  · exact ⟨hl, .inl h⟩
  · exact ⟨hl, .inr ⟨g, cap, cur, rfl, Nat.zero_le _, h⟩⟩
theorem own_slice' {w : World} {base e size n : Nat} {v : Value} {xs : List Value} (h : w.ownsRow base e size v n xs) : ∃ a cap, v = .slice a n cap := by
  rcases own_any h with ⟨rfl, h0, _⟩ | ⟨g, cap, rfl, _⟩
  · exact ⟨none, 0, by rw [h0]⟩
  · exact ⟨_, _, rfl⟩
theorem info_row9 : (Try.prog.toTables.info? 53).map (fun i => (i.zero, i.size, i.bytes)) = some (some (.agg #[.int .i64 0, .int .i64 0, .int .i64 0]), 3, 24) := by kernel_rfl
theorem r9_one (r : R9) : ∀ u ∈ r9V r, u.oneCell' = true := by
  intro u hu
  simp [r9V] at hu
  rcases hu with rfl | rfl | rfl <;> rfl
theorem r9_news (w : World) (r : R9) : ∀ (j : Nat) (u : Value), (r9V r)[j]? = some u → (w.alloc (.cells #[.int .i64 r.t, .int .i64 r.p, .int .i64 r.m] 53)).cell? ((⟨w.heap.size, 0, none⟩ : Addr).add j) = some u := by
  intro j u hj
  have e : (⟨w.heap.size, 0, none⟩ : Addr).add j = ⟨w.heap.size, j, none⟩ := by unfold Addr.add; split <;> simp_all
  rw [e, (Blk.new w 53 #[.int .i64 r.t, .int .i64 r.p, .int .i64 r.m]).cell]
  rw [← hj, ← Array.getElem?_toList]
  rfl
section
variable {w : World} {G : Foot} {g : Nat} {l : List R9}
set_option maxRecDepth 100000 in
set_option maxHeartbeats 8000000 in
theorem refTake_no (h : IsR9 w G g l) (t p m : Int) (h0 : mayR l t p m ≠ 0) :
    Calls Try.prog 11 #[.pointer (some ⟨g, 0, none⟩), .int .i64 t, .int .i64 p, .int .i64 m] w (OutR w G g l (.int .i64 (mayR l t p m))) := by
  have K := Lib.hid (refMay_any h t p m)
  have H := Lib.hid h
  have h1 : ((mayR l t p m : Int) != 0) = true := by simpa using h0
  clear h
  generalize mayR l t p m = n at *
  clear h0
  go_enter Try.func11, Try.ntmps11
  go_wp2_with fail
  refine K.out.mono ?_
  rintro e w1 ⟨rfl, hb⟩
  have H1 := Lib.hid (H.out.below hb)
  have HB := Lib.hid hb
  clear hb
  go_wp2
  go_ret
  exact ⟨G, rfl, H1.out, .ofBelow HB.out⟩
set_option maxRecDepth 100000 in
set_option maxHeartbeats 8000000 in
theorem refTake_yes (h : IsR9 w G g l) (t p m : Int) (h0 : mayR l t p m = 0) (hl : l.length ≤ 1000) :
    Calls Try.prog 11 #[.pointer (some ⟨g, 0, none⟩), .int .i64 t, .int .i64 p, .int .i64 m] w (OutR w G g (setR l t p m) (.int .i64 0)) := by
  have K := refMay_any h t p m
  rw [h0] at K
  have HK := Lib.hid K
  have H := Lib.hid h
  have HL := Lib.hid hl
  clear h h0 K hl
  go_enter Try.func11, Try.ntmps11
  go_wp2_with fail
  refine HK.out.mono ?_
  rintro e w1 ⟨rfl, hb⟩
  have H1 := Lib.hid (H.out.below hb)
  have HB := Lib.hid hb
  obtain ⟨a, cap, c0, hcap, hcm, hrow⟩ := H1.out.look
  have hl64 : (l.length : Int) ≤ 9223372036854775807 := by unfold maxLen at hcm; omega
  have HROW := Lib.hid hrow
  clear hb HK hrow hcm
  go_wp2
  go_loopw [10] (fun i wr => ∃ k : Nat, k ≤ l.length ∧ i = .int .i64 k ∧ w1 = wr ∧ ∀ r ∈ l.take k, ¬ (r.t = t ∧ r.p = p)) (fun i _ => (l.length - intOf i).toNat)
  case atStart => exact ⟨0, Nat.zero_le _, rfl, rfl, fun r hr => by simp at hr⟩
  case round =>
    obtain ⟨k, hk, rfl, rfl, hall⟩ := hrel
    by_cases hlt : k < l.length
    · obtain ⟨b, rfl, hb, r0, r1, r2⟩ := HROW.out k hlt
      have HALL := Lib.hid hall
      have HLT := Lib.hid hlt
      have HTK : Hid (l.take (k + 1) = l.take k ++ [l[k]]) := by unfold Hid; exact List.take_succ_eq_append_getElem hlt
      have HSK : Hid (l[k].t = t ∧ l[k].p = p → setR l t p m = l.set k ⟨l[k].t, l[k].p, maxI l[k].m m⟩) := fun e => setR_at hlt hall e
      have HRS : Hid (∀ x, rows9 (l.set k ⟨l[k].t, l[k].p, x⟩) = (rows9 l).set (k * 3 + 2) (.int .i64 x)) := fun x => rows9_set l k hlt x
      have hlt' : (k : Int) < l.length := by omega
      clear hall
      generalize l[k] = r at *
      cases e1 : r.t == t with
      | false =>
        have h1 : ¬ r.t = t := by simpa using e1
        have HALL2 : Hid (∀ q ∈ l.take (k + 1), ¬ (q.t = t ∧ q.p = p)) := fun q hq => by
          rw [HTK.out] at hq
          rcases List.mem_append.1 hq with hq | hq
          · exact HALL.out q hq
          · simp at hq; subst hq; exact fun e => h1 e.1
        clear h1 HALL HTK
        go_wp2
        exact ⟨⟨k + 1, HLT.out, by go_num, by first | trivial | rfl, HALL2.out⟩, by simp [intOf]; have := HLT.out; omega⟩
      | true =>
        cases e2 : r.p == p with
        | false =>
          have h1 : ¬ r.p = p := by simpa using e2
          have HALL2 : Hid (∀ q ∈ l.take (k + 1), ¬ (q.t = t ∧ q.p = p)) := fun q hq => by
            rw [HTK.out] at hq
            rcases List.mem_append.1 hq with hq | hq
            · exact HALL.out q hq
            · simp at hq; subst hq; exact fun e => h1 e.2
          clear h1 HALL HTK
          go_wp2
          exact ⟨⟨k + 1, HLT.out, by go_num, by first | trivial | rfl, HALL2.out⟩, by simp [intOf]; have := HLT.out; omega⟩
        | true =>
          have h1 : r.t = t := by simpa using e1
          have h2 : r.p = p := by simpa using e2
          have e : Hid (setR l t p m = l.set k ⟨r.t, r.p, maxI r.m m⟩) := HSK.out ⟨h1, h2⟩
          clear h1 h2 HSK HALL HTK
          go_upto_region 8 with fail
          obtain ⟨v, hv, ho, hG⟩ := H1.out.parts
          have hva : v = .slice (some ⟨b, 0, none⟩) l.length cap := by
            have := hv.cell 0
            rw [c0] at this
            simpa using this.symm
          subst hva
          have HD := Lib.hid (fun x => (ho.stored (k * 3 + 2) (.int .i64 x)).1)
          have HGB : Hid (G b) := hG b rfl
          have hgb : g ≠ b := fun e => own_blk ho hv (by decide) (by simp [Value.ownBlock, e])
          have HX := Lib.hid (fun x => hv.far (p := ⟨b, k * 3 + 2, none⟩) hgb x)
          have f2 : w1.frozen? ⟨b, k * 3 + 2, none⟩ = false := ho.frozenAt _
          have HLT2 := Lib.hid H1.out.lt
          have HFG := Lib.hid H1.out.fg
          have fin : Hid (∀ x, x = maxI r.m m → ∀ w2, w2 = w1.setCell ⟨b, k * 3 + 2, none⟩ (.int .i64 x) → IsR9 w2 G g (setR l t p m) ∧ Step G G w w2) := fun x hx w2 hw2 => by
            subst hw2 hx
            refine ⟨⟨⟨_, HX.out _, ?_, hG⟩, HFG.out, fun c hc => by simp only [World.setCell, Array.size_modify]; exact HLT2.out c hc⟩, (Step.ofBelow HB.out).set (p := ⟨b, k * 3 + 2, none⟩) HGB.out _⟩
            have := HD.out (maxI r.m m)
            rw [e.out, HRS.out, List.length_set]
            exact this
          clear hv ho hG HD HX HRS
          by_cases hm : r.m < m
          · have hx : maxI r.m m = m := if_pos hm
            have FIN := Lib.hid (fin.out m hx.symm _ rfl)
            clear fin hx
            go_still_tail 17, (by kernel_rfl)
            change wpList _ _ _ _ _ w1.drew
            have f3 : w1.drew.frozen? ⟨b, k * 3 + 2, none⟩ = false := f2
            have c3 : w1.drew.cell? ⟨b, k * 3 + 2, none⟩ = some (.int .i64 r.m) := r2
            have FIN2 : Hid (IsR9 (w1.drew.setCell ⟨b, k * 3 + 2, none⟩ (.int .i64 m)) G g (setR l t p m) ∧ Step G G w (w1.drew.setCell ⟨b, k * 3 + 2, none⟩ (.int .i64 m))) :=
              ⟨FIN.out.1.keep (fun _ _ => rfl) (Nat.le_refl _), FIN.out.2.drew⟩
            clear FIN
            generalize w1.drew = w4 at *
            go_wp2
            go_ret
            exact ⟨G, rfl, FIN2.out.1, FIN2.out.2⟩
          · have hx : maxI r.m m = r.m := if_neg hm
            have FIN := Lib.hid (fin.out r.m hx.symm _ rfl)
            clear fin hx
            go_still_tail 17, (by kernel_rfl)
            change wpList _ _ _ _ _ w1.drew
            have f3 : w1.drew.frozen? ⟨b, k * 3 + 2, none⟩ = false := f2
            have c3 : w1.drew.cell? ⟨b, k * 3 + 2, none⟩ = some (.int .i64 r.m) := r2
            have FIN2 : Hid (IsR9 (w1.drew.setCell ⟨b, k * 3 + 2, none⟩ (.int .i64 r.m)) G g (setR l t p m) ∧ Step G G w (w1.drew.setCell ⟨b, k * 3 + 2, none⟩ (.int .i64 r.m))) :=
              ⟨FIN.out.1.keep (fun _ _ => rfl) (Nat.le_refl _), FIN.out.2.drew⟩
            clear FIN
            generalize w1.drew = w4 at *
            go_wp2
            go_ret
            exact ⟨G, rfl, FIN2.out.1, FIN2.out.2⟩
    · obtain rfl : k = l.length := by omega
      rw [List.take_length] at hall
      have e : Hid (setR l t p m = l ++ [⟨t, p, m⟩]) := setR_none hall
      clear hall
      obtain ⟨v, hv, ho, hG⟩ := H1.out.parts
      obtain ⟨i0, hi, hz0, hz1, hz2⟩ := info_parts info_row9
      have hva : v = .slice a l.length cap := by
        have := hv.cell 0
        rw [c0] at this
        simpa using this.symm
      subst hva
      have HG := Lib.hid hG
      have f0 := hv.frozen 0
      have HM63 : l.length + 1 ≤ maxLen := by have := HL.out; unfold maxLen; omega
      have HM47 : (l.length + 1) * 24 ≤ 140737488355328 := by have := HL.out; omega
      have HV := Lib.hid hv
      have HO := Lib.hid ho
      have hob := own_blk ho hv (by decide)
      clear ho hG hcap hl64 HROW hk
      go_upto_region 10 with fail
      go_wp2_with (at_builtin; refine wpList_append_lies _ rfl (.tmp 71) (.tmp 76) 27 rfl 0 53 i0 (.agg #[.int .i64 0, .int .i64 0, .int .i64 0]) 3 24 Try.underlying27 hi hz0 hz1 hz2 rfl (by decide) _ _ _ rfl (own_below HO.out ((Below.refl _ _).alloc (Nat.le_refl _) _)) ⟨w1.heap.size, 0, none⟩ 1 1 (r9V ⟨t, p, m⟩) rfl rfl (r9_news _ ⟨t, p, m⟩) (r9_one _) (by decide) HM63 HM47 (Nat.zero_le _) _ rfl ?_)
      intro gb cap' w2 hown hgrow hlie hglt
      have hx2 : Blk w2 g 29 #[.slice a l.length cap] := (hgrow.block g (by have := HV.out.lt; simp; omega) (fun e => hob e.symm)).trans (HV.out.alloc _)
      have c2 := hx2.cell 0
      have f2 := hx2.frozen 0
      have ST := Lib.hid ((((Step.ofBelow (F := G) HB.out).alloc (.cells #[.int .i64 t, .int .i64 p, .int .i64 m] 53)).grown hgrow (fun b hb => HG.out b hb)).widen)
      have hnew : w.heap.size ≤ w1.heap.size := HB.out.size
      have HLIE : Hid (G gb ∨ (w.heap.size ≤ gb ∧ gb < w2.heap.size)) := by
        rcases hlie with h1 | h1
        · exact .inl (HG.out gb h1)
        · exact .inr ⟨by (try simp at h1); omega, hglt⟩
      have HGR := Lib.hid hgrow.size
      have hgb : g ≠ gb := fun e => by
        subst e
        exact own_blk hown hx2 (by decide) rfl
      have FIN : Hid (IsR9 (w2.setCell ⟨g, 0, none⟩ (.slice (some ⟨gb, 0, none⟩) (l.length + 1) cap')) (fun b => G b ∨ (w.heap.size ≤ b ∧ b < w2.heap.size)) g (setR l t p m)) := by
        refine ⟨⟨_, hx2.set 0 _, ?_, fun b hb => ?_⟩, .inl H1.out.fg, fun b hb => ?_⟩
        · rw [e.out, List.length_append, rows9_snoc]
          exact own_keep hown fun b hb => heap_setCell_other w2 ⟨g, 0, none⟩ b _ (fun e' => by simp [Value.ownBlock] at hb; exact hgb (by rw [hb]; exact e'.symm))
        · simp [Value.ownBlock] at hb
          subst hb
          exact HLIE.out
        · simp only [World.setCell, Array.size_modify]
          rcases hb with hb | hb
          · have h1 := H1.out.lt b hb
            have h2 := HGR.out
            try simp at h2
            omega
          · exact hb.2
      have FG := Lib.hid H1.out.fg
      clear hown hgrow hlie hx2 hnew hgb HV HO hob hv HM63 HM47
      go_wp2
      go_ret
      exact ⟨_, rfl, FIN.out, ST.out.set (p := ⟨g, 0, none⟩) (.inl FG.out) _⟩
/-- What a call makes of the rows. -/
def takeR (l : List R9) (t p m : Int) : List R9 := if mayR l t p m = 0 then setR l t p m else l
theorem refTake_any (h : IsR9 w G g l) (t p m : Int) (hl : l.length ≤ 1000) :
    Calls Try.prog 11 #[.pointer (some ⟨g, 0, none⟩), .int .i64 t, .int .i64 p, .int .i64 m] w (OutR w G g (takeR l t p m) (.int .i64 (mayR l t p m))) := by
  unfold takeR
  by_cases h0 : mayR l t p m = 0
  · rw [if_pos h0, h0]
    exact refTake_yes h t p m h0 hl
  · rw [if_neg h0]
    exact refTake_no h t p m h0
def freeR (l : List R9) (t : Int) : List R9 := l.filter fun r => r.t != t
theorem freeR_le (l : List R9) (t : Int) : (freeR l t).length ≤ l.length := List.length_filter_le _ _
theorem freeR_take (l : List R9) (t : Int) (k : Nat) (hk : k < l.length) : freeR (l.take (k + 1)) t = freeR (l.take k) t ++ (if l[k].t != t then [l[k]] else []) := by
  unfold freeR
  rw [List.take_succ_eq_append_getElem hk, List.filter_append]
  congr 1
  cases h : l[k].t != t <;> simp [h]
set_option maxRecDepth 100000 in
set_option maxHeartbeats 8000000 in
theorem refFree_any (h : IsR9 w G g l) (t : Int) (hl : l.length ≤ 1000) :
    Calls Try.prog 13 #[.pointer (some ⟨g, 0, none⟩), .int .i64 t] w (OutR w G g (freeR l t) (.int .i64 ((l.length : Int) - (freeR l t).length))) := by
  have H := Lib.hid h
  have HL := Lib.hid hl
  obtain ⟨a, cap, c0, hcap, hcm, hrow⟩ := h.look
  have hl64 : (l.length : Int) ≤ 9223372036854775807 := by omega
  have HROW := Lib.hid hrow
  have hg := h.lt g h.fg
  obtain ⟨i0, hi, hz0, hz1, hz2⟩ := info_parts info_row9
  clear h hl hcm hrow
  go_enter Try.func13, Try.ntmps13
  go_wp2
  go_loopw [5, 6] (fun v i wr => ∃ k : Nat, k ≤ l.length ∧ i = .int .i64 k ∧ wr.ownsRow w.heap.size 53 3 v (freeR (l.take k) t).length (rows9 (freeR (l.take k) t)) ∧ Below w.heap.size w wr) (fun _ i _ => (l.length - intOf i).toNat)
  case atStart => exact ⟨0, Nat.zero_le _, rfl, ⟨rfl, .inl ⟨rfl, rfl⟩⟩, Below.refl _ _⟩
  case round =>
    obtain ⟨k, hk, rfl, hown, hB⟩ := hrel
    have cg := (hB.cell (p := ⟨g, 0, none⟩) hg).trans c0
    by_cases hlt : k < l.length
    · obtain ⟨b, rfl, hb, r0, r1, r2⟩ := HROW.out k hlt
      have d0 := (hB.cell (p := ⟨b, k * 3, none⟩) hb).trans r0
      have d1 := (hB.cell (p := ⟨b, k * 3 + 1, none⟩) hb).trans r1
      have d2 := (hB.cell (p := ⟨b, k * 3 + 2, none⟩) hb).trans r2
      have HT := Lib.hid (freeR_take l t k hlt)
      have HB := Lib.hid hB
      have HLT := Lib.hid hlt
      have HO := Lib.hid hown
      have hlt' : (k : Int) < l.length := by omega
      have hfl : (freeR (l.take k) t).length ≤ 1000 := Nat.le_trans (freeR_le _ _) (by rw [List.length_take]; have := HL.out; omega)
      have HFL := Lib.hid hfl
      clear r0 r1 r2 hB hown hfl
      generalize l[k] = r at *
      cases e1 : r.t != t with
      | false =>
        have e : Hid (freeR (l.take (k + 1)) t = freeR (l.take k) t) := by
          unfold Hid
          rw [HT.out, e1]
          simp
        clear HT
        go_wp2
        exact ⟨⟨k + 1, HLT.out, by go_num, by rw [e.out]; exact HO.out, HB.out⟩, by simp [intOf]; have := HLT.out; omega⟩
      | true =>
        have e : Hid (freeR (l.take (k + 1)) t = freeR (l.take k) t ++ [r]) := by
          unfold Hid
          rw [HT.out, e1]
          simp
        clear HT
        have HM63 : (freeR (l.take k) t).length + 1 ≤ maxLen := by have := HFL.out; unfold maxLen; omega
        have HM47 : ((freeR (l.take k) t).length + 1) * 24 ≤ 140737488355328 := by have := HFL.out; omega
        have HBS : w.heap.size ≤ (wr.alloc (.cells #[.int .i64 r.t, .int .i64 r.p, .int .i64 r.m] 53)).heap.size := by have := HB.out.size; simp; omega
        go_wp2_with (at_builtin; refine wpList_append_own _ rfl (.tmp 27) (.tmp 35) 27 rfl w.heap.size 53 i0 (.agg #[.int .i64 0, .int .i64 0, .int .i64 0]) 3 24 Try.underlying27 hi hz0 hz1 hz2 rfl (by decide) _ _ _ rfl (own_below HO.out ((Below.refl _ _).alloc (Nat.le_refl _) _)) ⟨wr.heap.size, 0, none⟩ 1 1 (r9V r) rfl rfl (r9_news _ r) (r9_one _) HM63 HM47 HBS ?_)
        intro v' w2 hown' hgrow _
        have HB2 := Lib.hid ((HB.out.alloc HB.out.size _).grown hgrow (by have := HB.out.size; simp; omega) (fun k hk => (HO.out.lt k hk).1))
        have HO2 : Hid (w2.ownsRow w.heap.size 53 3 v' (freeR (l.take (k + 1)) t).length (rows9 (freeR (l.take (k + 1)) t))) := by
          unfold Hid
          rw [e.out, List.length_append, rows9_snoc]
          exact hown'
        clear hown' hgrow HO
        go_wp2
        exact ⟨⟨k + 1, HLT.out, by go_num, HO2.out, HB2.out⟩, by simp [intOf]; have := HLT.out; omega⟩
    · obtain rfl : k = l.length := by omega
      rw [List.take_length] at hown
      have hfl := freeR_le l t
      have hw : IntKind.i64.wrap ((l.length : Int) - (freeR l t).length) = (l.length : Int) - (freeR l t).length := IntWalk.i64_in _ (by omega)
      have hfm : ((freeR l t).length : Int) ≤ 9223372036854775807 := by omega
      have hx : Blk wr g 29 #[.slice a l.length cap] := by
        obtain ⟨v, hv, _⟩ := H.out.parts
        have := hv.cell 0
        rw [c0] at this
        have e : v = .slice a l.length cap := by simpa using this.symm
        subst e
        exact hv.keep hB hv.lt
      obtain ⟨a2, cap2, rfl⟩ := own_slice' hown
      have f0 := hx.frozen 0
      have HO := Lib.hid hown
      have HX := Lib.hid hx
      have HB := Lib.hid hB
      clear hown hx hB hfl hk
      generalize freeR l t = l2 at *
      go_wp2
      go_ret
      refine ⟨fun b => b = g ∨ (w.heap.size ≤ b ∧ b < wr.heap.size), rfl, ⟨⟨_, HX.out.set 0 _, ?_, fun b hb => .inr (HO.out.lt b hb)⟩, .inl rfl, fun b hb => ?_⟩, ?_⟩
      · exact own_base' (own_keep HO.out fun b hb => heap_setCell_other wr ⟨g, 0, none⟩ b _ (fun e' => by have := (HO.out.lt b hb).1; have e2 : b = g := e'; omega))
      · simp only [World.setCell, Array.size_modify]
        rcases hb with rfl | hb
        · exact HX.out.lt
        · exact hb.2
      · have ST := ((Step.ofBelow (F := G) HB.out).set (p := ⟨g, 0, none⟩) H.out.fg (.slice a2 l2.length cap2))
        exact ⟨ST.os, ST.tape, ST.output, ST.size, ST.block, fun b hb => hb.elim (fun e => .inl (e ▸ H.out.fg)) fun e => .inr e.1⟩
end
end Go.Proofs.Ytkeonffkaopclaa
