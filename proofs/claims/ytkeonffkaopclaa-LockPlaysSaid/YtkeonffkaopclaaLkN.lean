/- careenref09: rows in memory; May, Mode. -/
import Derived.Test.YtkeonffkaopclaaLkB
namespace Go.Proofs.Ytkeonffkaopclaa
open Go.RowKit

structure R9 where
  t : Int
  p : Int
  m : Int
def r9V (r : R9) : List Value := [.int .i64 r.t, .int .i64 r.p, .int .i64 r.m]
def rows9 (l : List R9) : List Value := l.flatMap r9V
theorem rows9_len (l : List R9) : (rows9 l).length = l.length * 3 := by
  induction l with
  | nil => rfl
  | cons x l ih => simp [rows9, r9V] at ih ⊢; omega
theorem rows9_snoc (l : List R9) (x : R9) : rows9 (l ++ [x]) = rows9 l ++ r9V x := by simp [rows9]
theorem rows9_at (l : List R9) (k : Nat) (h : k < l.length) : (rows9 l)[k * 3]? = some (.int .i64 l[k].t) ∧ (rows9 l)[k * 3 + 1]? = some (.int .i64 l[k].p) ∧ (rows9 l)[k * 3 + 2]? = some (.int .i64 l[k].m) := by
  induction l generalizing k with
  | nil => simp at h
  | cons x l ih =>
    have e : rows9 (x :: l) = .int .i64 x.t :: .int .i64 x.p :: .int .i64 x.m :: rows9 l := rfl
    rw [e]
    cases k with
    | zero => exact ⟨rfl, rfl, rfl⟩
    | succ k =>
      have := ih k (by simpa using h)
      rw [show (k + 1) * 3 = k * 3 + 1 + 1 + 1 from by omega]
      simpa using this
/-- The document's table at block g, with the footprint G. -/
structure IsR9 (w : World) (G : Foot) (g : Nat) (l : List R9) : Prop where
  parts : ∃ v, Blk w g 29 #[v] ∧ w.ownsRow 0 53 3 v l.length (rows9 l) ∧ ∀ b, v.ownBlock = some b → G b
  fg : G g
  lt : ∀ b, G b → b < w.heap.size
namespace IsR9
variable {w w' : World} {G F2 F2' : Foot} {g : Nat} {l : List R9}
theorem keep (h : IsR9 w G g l) (hk : ∀ b, G b → w'.heap[b]? = w.heap[b]?) (hs : w.heap.size ≤ w'.heap.size) : IsR9 w' G g l := by
  obtain ⟨v, h1, h2, h3⟩ := h.parts
  exact ⟨⟨v, (hk g h.fg).trans h1, own_keep h2 fun b hb => hk b (h3 b hb), h3⟩, h.fg, fun b hb => Nat.lt_of_lt_of_le (h.lt b hb) hs⟩
theorem below (h : IsR9 w G g l) (hb : Below w.heap.size w w') : IsR9 w' G g l := h.keep (fun b hF => hb.block b (h.lt b hF)) hb.size
theorem apart (h : IsR9 w G g l) (hs : Step F2 F2' w w') (ha : ∀ b, G b → ¬ F2 b) : IsR9 w' G g l ∧ ∀ b, G b → ¬ F2' b :=
  ⟨h.keep (fun b hb => hs.block b (h.lt b hb) (ha b hb)) hs.size, fun b hb g => (hs.foot b g).elim (ha b hb) (fun k => by have := h.lt b hb; omega)⟩
/-- What is loaded: the slice; its rows. -/
theorem look (h : IsR9 w G g l) : ∃ a cap, w.cell? ⟨g, 0, none⟩ = some (.slice a l.length cap) ∧ l.length ≤ cap ∧ cap ≤ maxLen ∧ ∀ k (hk : k < l.length), ∃ b, a = some ⟨b, 0, none⟩ ∧ b < w.heap.size ∧ w.cell? ⟨b, k * 3, none⟩ = some (.int .i64 l[k].t) ∧ w.cell? ⟨b, k * 3 + 1, none⟩ = some (.int .i64 l[k].p) ∧ w.cell? ⟨b, k * 3 + 2, none⟩ = some (.int .i64 l[k].m) := by
  obtain ⟨v, h1, h2, _⟩ := h.parts
  rcases own_any h2 with ⟨rfl, h0, _⟩ | ⟨b, cap, rfl, hc, hm⟩
  · refine ⟨none, 0, by rw [h0]; exact h1.cell 0, by omega, by decide, fun k hk => by omega⟩
  · refine ⟨_, cap, h1.cell 0, hc, hm, fun k hk => ⟨b, rfl, (h2.lt b rfl).2, ?_⟩⟩
    have e : ∀ j, (⟨b, 0, none⟩ : Addr).add j = ⟨b, j, none⟩ := fun j => by unfold Addr.add; split <;> simp_all
    have c := fun j u hj => (e j ▸ h2.cells (g := b) rfl j u hj : w.cell? ⟨b, j, none⟩ = some u)
    obtain ⟨r0, r1, r2⟩ := rows9_at l k hk
    exact ⟨c _ _ r0, c _ _ r1, c _ _ r2⟩
end IsR9
/-- Does a row stand in the way? -/
def R9.bars (r : R9) (t p m : Int) : Bool := (r.t != t) && ((r.p == p) && ((r.m == 2) || (m == 2)))
def mayR (l : List R9) (t p m : Int) : Nat := if Call9 t p m then (if (l.any fun r => r.bars t p m) = true then 6 else 0) else 1
def modeR : List R9 → Int → Int → Int
  | [], _, _ => 0
  | r :: l, t, p => if r.t = t ∧ r.p = p then r.m else modeR l t p
theorem modeR_skip {l : List R9} {t p : Int} : ∀ {k : Nat}, (∀ r ∈ l.take k, ¬ (r.t = t ∧ r.p = p)) → modeR l t p = modeR (l.drop k) t p
  | 0, _ => rfl
  | k + 1, h => by
    cases l with
    | nil => rfl
    | cons r l =>
      rw [List.drop_succ_cons]
      show (if r.t = t ∧ r.p = p then r.m else modeR l t p) = _
      rw [if_neg (h r (by simp))]
      exact modeR_skip fun x hx => h x (by rw [List.take_succ_cons]; exact .tail _ hx)
section
variable {w : World} {G : Foot} {g : Nat} {l : List R9}
set_option maxRecDepth 100000 in
set_option maxHeartbeats 8000000 in
theorem refMay_bad (t p m : Int) (hc : ¬ Call9 t p m) :
    Calls Try.prog 15 #[.pointer (some ⟨g, 0, none⟩), .int .i64 t, .int .i64 p, .int .i64 m] w fun e w' => e = .returned (.int .i64 1) ∧ w = w' := by
  have hall : t < 1 ∨ 2147483647 < t ∨ p < 0 ∨ 7 < p ∨ m < 1 ∨ 2 < m := by
    unfold Call9 at hc
    omega
  clear hc
  by_cases h1 : t < 1
  · clear hall
    go_enter Try.func15, Try.ntmps15
    go_wp2
    go_ret
    exact ⟨rfl, rfl⟩
  by_cases h2 : 2147483647 < t
  · clear hall
    go_enter Try.func15, Try.ntmps15
    go_wp2
    go_ret
    exact ⟨rfl, rfl⟩
  by_cases h3 : p < 0
  · clear hall
    go_enter Try.func15, Try.ntmps15
    go_wp2
    go_ret
    exact ⟨rfl, rfl⟩
  by_cases h4 : 7 < p
  · clear hall
    go_enter Try.func15, Try.ntmps15
    go_wp2
    go_ret
    exact ⟨rfl, rfl⟩
  by_cases h5 : m < 1
  · clear hall
    go_enter Try.func15, Try.ntmps15
    go_wp2
    go_ret
    exact ⟨rfl, rfl⟩
  have h6 : 2 < m := by omega
  clear hall
  go_enter Try.func15, Try.ntmps15
  go_wp2
  go_ret
  exact ⟨rfl, rfl⟩
set_option maxRecDepth 100000 in
set_option maxHeartbeats 8000000 in
theorem refMay_good (h : IsR9 w G g l) (t p m : Int) (hc : Call9 t p m) :
    Calls Try.prog 15 #[.pointer (some ⟨g, 0, none⟩), .int .i64 t, .int .i64 p, .int .i64 m] w fun e w' => e = .returned (.int .i64 (mayR l t p m)) ∧ Below w.heap.size w w' := by
  have HR := Lib.hid h
  obtain ⟨a, cap, c0, hcap, hcm, hrow⟩ := h.look
  have hl64 : (l.length : Int) ≤ 9223372036854775807 := by unfold maxLen at hcm; omega
  clear hcm
  have hg := h.lt g h.fg
  have hn : Hid (mayR l t p m = if (l.any fun r => r.bars t p m) = true then 6 else 0) := if_pos hc
  have h1 : ¬ t < 1 := by have := hc.1; omega
  have h2 : ¬ 2147483647 < t := by have := hc.2.1; omega
  have h3 : ¬ p < 0 := by have := hc.2.2.1; omega
  have h4 : ¬ 7 < p := by have := hc.2.2.2.1; omega
  have h5 : ¬ m < 1 := by have := hc.2.2.2.2; omega
  have h6 : ¬ 2 < m := by have := hc.2.2.2.2; omega
  have HROW := Lib.hid hrow
  clear h hrow hc
  generalize mayR l t p m = n at *
  go_enter Try.func15, Try.ntmps15
  go_wp2
  clear h1 h2 h3 h4 h5 h6
  go_loopw [9] (fun i wr => ∃ k : Nat, k ≤ l.length ∧ i = .int .i64 k ∧ Below w.heap.size w wr ∧ ∀ r ∈ l.take k, r.bars t p m = false) (fun i _ => (l.length - intOf i).toNat)
  case atStart => exact ⟨0, Nat.zero_le _, rfl, Below.refl _ _, fun r hr => by simp at hr⟩
  case round =>
    obtain ⟨k, hk, rfl, hB, hall⟩ := hrel
    have cg := (hB.cell (p := ⟨g, 0, none⟩) hg).trans c0
    by_cases hlt : k < l.length
    · obtain ⟨b, rfl, hb, r0, r1, r2⟩ := HROW.out k hlt
      have d0 := (hB.cell (p := ⟨b, k * 3, none⟩) hb).trans r0
      have d1 := (hB.cell (p := ⟨b, k * 3 + 1, none⟩) hb).trans r1
      have d2 := (hB.cell (p := ⟨b, k * 3 + 2, none⟩) hb).trans r2
      have HALL := Lib.hid hall
      have HB := Lib.hid hB
      have HLT := Lib.hid hlt
      have HIN : Hid (l[k] ∈ l) := List.getElem_mem hlt
      have HTK : Hid (l.take (k + 1) = l.take k ++ [l[k]]) := by unfold Hid; exact List.take_succ_eq_append_getElem hlt
      have hlt' : (k : Int) < l.length := by omega
      clear r0 r1 r2 hB hall
      generalize l[k] = r at *
      have x := Blk.new wr 53 #[.int .i64 r.t, .int .i64 r.p, .int .i64 r.m]
      have x0 := x.cell 0
      have x1 := x.cell 1
      have x2 := x.cell 2
      simp at x0 x1 x2
      clear x
      have HB2 := Lib.hid (HB.out.alloc HB.out.size (.cells #[.int .i64 r.t, .int .i64 r.p, .int .i64 r.m] 53))
      by_cases hbar : r.bars t p m = true
      · have hn6 : n = 6 := by rw [hn.out, if_pos (List.any_eq_true.2 ⟨r, HIN.out, hbar⟩)]
        subst hn6
        clear hn
        unfold R9.bars at hbar
        simp only [Bool.and_eq_true, Bool.or_eq_true] at hbar
        obtain ⟨b1, b2, b3⟩ := hbar
        cases e3 : r.m == 2 with
        | true =>
          clear b3
          go_wp2
          go_ret
          exact ⟨rfl, HB2.out⟩
        | false =>
          have b4 : (m == 2) = true := b3.resolve_left (by rw [e3]; decide)
          clear b3
          go_wp2
          go_ret
          exact ⟨rfl, HB2.out⟩
      · have HALL2 : Hid (∀ q ∈ l.take (k + 1), q.bars t p m = false) := fun q hq => by
          rw [HTK.out] at hq
          rcases List.mem_append.1 hq with hq | hq
          · exact HALL.out q hq
          · simp at hq; subst hq; simpa using hbar
        unfold R9.bars at hbar
        clear HALL HTK HIN hn
        cases e1 : r.t != t with
        | false =>
          clear hbar
          go_wp2
          exact ⟨⟨k + 1, HLT.out, by go_num, HB2.out, HALL2.out⟩, by simp [intOf]; have := HLT.out; omega⟩
        | true =>
          cases e2 : r.p == p with
          | false =>
            clear hbar
            go_wp2
            exact ⟨⟨k + 1, HLT.out, by go_num, HB2.out, HALL2.out⟩, by simp [intOf]; have := HLT.out; omega⟩
          | true =>
            cases e3 : r.m == 2 with
            | true => simp [e1, e2, e3] at hbar
            | false =>
              have e4 : (m == 2) = false := by
                cases h : m == 2 with
                | true => simp [e1, e2, e3, h] at hbar
                | false => rfl
              clear hbar
              go_wp2
              exact ⟨⟨k + 1, HLT.out, by go_num, HB2.out, HALL2.out⟩, by simp [intOf]; have := HLT.out; omega⟩
    · obtain rfl : k = l.length := by omega
      have e0 : n = 0 := by
        rw [hn.out, if_neg]
        rw [List.take_length] at hall
        intro ha
        obtain ⟨r, hr, hb⟩ := List.any_eq_true.1 ha
        rw [hall r hr] at hb; cases hb
      have HB := Lib.hid hB
      clear hB hall hn
      subst e0
      go_wp2
      go_ret
      exact ⟨rfl, HB.out⟩
theorem refMay_any (h : IsR9 w G g l) (t p m : Int) :
    Calls Try.prog 15 #[.pointer (some ⟨g, 0, none⟩), .int .i64 t, .int .i64 p, .int .i64 m] w fun e w' => e = .returned (.int .i64 (mayR l t p m)) ∧ Below w.heap.size w w' := by
  by_cases hc : Call9 t p m
  · exact refMay_good h t p m hc
  · refine (refMay_bad t p m hc).mono ?_
    rintro e w1 ⟨rfl, rfl⟩
    exact ⟨by unfold mayR; rw [if_neg hc]; rfl, Below.refl _ _⟩
set_option maxRecDepth 100000 in
set_option maxHeartbeats 8000000 in
theorem refMode_any (h : IsR9 w G g l) (t p : Int) :
    Calls Try.prog 18 #[.pointer (some ⟨g, 0, none⟩), .int .i64 t, .int .i64 p] w fun e w' => e = .returned (.int .i64 (modeR l t p)) ∧ w = w' := by
  obtain ⟨a, cap, c0, hcap, hcm, hrow⟩ := h.look
  have hl64 : (l.length : Int) ≤ 9223372036854775807 := by unfold maxLen at hcm; omega
  have HROW := Lib.hid hrow
  clear h hrow hcm
  go_enter Try.func18, Try.ntmps18
  go_wp2
  go_loopw [7] (fun i wr => ∃ k : Nat, k ≤ l.length ∧ i = .int .i64 k ∧ w = wr ∧ ∀ r ∈ l.take k, ¬ (r.t = t ∧ r.p = p)) (fun i _ => (l.length - intOf i).toNat)
  case atStart => exact ⟨0, Nat.zero_le _, rfl, rfl, fun r hr => by simp at hr⟩
  case round =>
    obtain ⟨k, hk, rfl, rfl, hall⟩ := hrel
    by_cases hlt : k < l.length
    · obtain ⟨b, rfl, hb, r0, r1, r2⟩ := HROW.out k hlt
      have HALL := Lib.hid hall
      have HLT := Lib.hid hlt
      have HTK : Hid (l.take (k + 1) = l.take k ++ [l[k]]) := by unfold Hid; exact List.take_succ_eq_append_getElem hlt
      have HSK : Hid (modeR l t p = if l[k].t = t ∧ l[k].p = p then l[k].m else modeR (l.drop (k + 1)) t p) := by
        unfold Hid
        rw [modeR_skip hall, List.drop_eq_getElem_cons hlt]
        rfl
      have hlt' : (k : Int) < l.length := by omega
      clear hall
      generalize l[k] = r at *
      cases e1 : r.t == t with
      | false =>
        have h1 : ¬ r.t = t := by simpa using e1
        have HALL2 : Hid (∀ q ∈ l.take (k + 1), ¬ (q.t = t ∧ q.p = p)) := fun q hq => by
          rw [HTK.out] at hq
          rcases List.mem_append.1 hq with hq | hq
          · exact HALL.out q hq
          · simp at hq; subst hq; exact fun e => h1 e.1
        clear h1 HALL HTK
        go_wp2
        exact ⟨⟨k + 1, HLT.out, by go_num, by first | trivial | rfl, HALL2.out⟩, by simp [intOf]; have := HLT.out; omega⟩
      | true =>
        cases e2 : r.p == p with
        | false =>
          have h1 : ¬ r.p = p := by simpa using e2
          have HALL2 : Hid (∀ q ∈ l.take (k + 1), ¬ (q.t = t ∧ q.p = p)) := fun q hq => by
            rw [HTK.out] at hq
            rcases List.mem_append.1 hq with hq | hq
            · exact HALL.out q hq
            · simp at hq; subst hq; exact fun e => h1 e.2
          clear h1 HALL HTK
          go_wp2
          exact ⟨⟨k + 1, HLT.out, by go_num, by first | trivial | rfl, HALL2.out⟩, by simp [intOf]; have := HLT.out; omega⟩
        | true =>
          have h1 : r.t = t := by simpa using e1
          have h2 : r.p = p := by simpa using e2
          have e : Hid (modeR l t p = r.m) := by unfold Hid; rw [HSK.out, if_pos ⟨h1, h2⟩]
          clear h1 h2 HSK
          go_wp2
          go_ret
          exact ⟨by rw [e.out]; rfl, rfl⟩
    · obtain rfl : k = l.length := by omega
      have e : Hid (modeR l t p = 0) := by
        unfold Hid
        rw [modeR_skip hall, List.drop_length]
        rfl
      clear hall
      go_wp2
      go_ret
      exact ⟨by rw [e.out]; rfl, rfl⟩
end
end Go.Proofs.Ytkeonffkaopclaa
