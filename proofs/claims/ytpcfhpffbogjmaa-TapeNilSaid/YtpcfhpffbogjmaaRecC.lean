/- Package record: the reader fills a change. -/
import Derived.Test.YtpcfhpffbogjmaaRecB
namespace Go.Proofs.Ytpcfhpffbogjmaa
open Go.RowKit

/-- The reader in block g, a record that is being read in block q. -/
structure Fill (w : World) (g q : Nat) (s : ByteArray) (l : List UInt8) (r : Rc) (vt vp : Value) : Prop where
  rd : Rd w g s l
  row : Blk w q 50 (recCells r vt vp)
  ne : q ≠ g
abbrev Two (g q : Nat) : Nat → Prop := fun b => b = g ∨ b = q
namespace Fill
variable {w w' : World} {g q : Nat} {s : ByteArray} {l l' : List UInt8} {r r' : Rc} {vt vp : Value}
theorem took (h : Fill w g q s l r vt vp) (hr : Rd w' g s l') (ho : Only (· = g) w w') : Fill w' g q s l' r vt vp := ⟨hr, ho.blk h.row h.ne, h.ne⟩
theorem more (h : Fill w g q s l r vt vp) (hb : Below w.heap.size w w') : Fill w' g q s l r vt vp := by
  obtain ⟨⟨k, h1, h2, h3, h4⟩, h5, h6⟩ := h
  exact ⟨⟨k, h1, h2, h3, h4.keep hb h4.lt⟩, h5.keep hb h5.lt, h6⟩
theorem drew (h : Fill w g q s l r vt vp) : Fill w.drew g q s l r vt vp := ⟨h.rd, h.row, h.ne⟩
theorem grown (h : Fill w g q s l r vt vp) {row : Option Nat} (hg : w.grownBy w' row) (h1 : row ≠ some g) (h2 : row ≠ some q) : Fill w' g q s l r vt vp := by
  obtain ⟨⟨k, a, b, c, d⟩, h5, h6⟩ := h
  exact ⟨⟨k, a, b, c, (hg.block g d.lt (Ne.symm h1)).trans d⟩, (hg.block q h5.lt (Ne.symm h2)).trans h5, h6⟩
theorem set {vt' vp' : Value} (h : Fill w g q s l r vt vp) (i : Nat) (v : Value) {cs : Array Value} (hc : (recCells r vt vp).setIfInBounds i v = cs) (hcs : cs = recCells r' vt' vp') : Fill (w.setCell ⟨q, i, none⟩ v) g q s l r' vt' vp' := by
  obtain ⟨k, h1, h2, h3, h4⟩ := h.rd
  refine ⟨⟨k, h1, h2, h3, h4.far (p := ⟨q, i, none⟩) (Ne.symm h.ne) v⟩, ?_, h.ne⟩
  rw [← hcs, ← hc]
  exact h.row.set i v
end Fill
theorem only2 {w w' : World} {g q : Nat} (h : Only (· = g) w w') : Only (Two g q) w w' := h.widen fun _ hb => .inl (.inl hb)
theorem only2set {w w' : World} {g q : Nat} (h : Only (Two g q) w w') (i : Nat) (v : Value) : Only (Two g q) w (w'.setCell ⟨q, i, none⟩ v) := h.set (p := ⟨q, i, none⟩) (.inl (.inr rfl)) v
/-- What the reading of a record's parts comes to. -/
def Filled (w : World) (g q : Nat) (s : ByteArray) (o : Option (Rc × List UInt8)) (vt vp : Value) (e : Ending) (w' : World) : Prop :=
  match o with
  | some (r, l) => e = .returned (.tuple #[]) ∧ Fill w' g q s l r vt vp ∧ Only (Two g q) w w'
  | none => e = .panicked gaveUp ∧ Only (Two g q) w w'

set_option maxRecDepth 100000 in
set_option maxHeartbeats 4000000 in
theorem change_any {w : World} {g q : Nat} {s : ByteArray} {l : List UInt8} {r : Rc} {vt vp : Value} (h : Fill w g q s l r vt vp) (o : Option (Rc × List UInt8)) (ho : o = changeP r l) :
    Calls Try.prog 77 #[.pointer (some ⟨g, 0, none⟩), .pointer (some ⟨q, 0, none⟩)] w (Filled w g q s o vt vp) := by
  unfold changeP at ho
  have HO := Lib.hid ho
  have H1 := Lib.hid (rdPage_any h.rd)
  have F0 := Lib.hid h
  clear ho h
  go_enter Try.func77, Try.ntmps77
  go_wp2_with fail
  refine H1.out.mono ?_
  intro e w1 ht
  rcases ht.int with ⟨hp, rfl, ho⟩ | ⟨pg, l1, hp, rfl, hr, ho⟩
  · rw [hp] at HO
    obtain rfl : o = none := HO.out
    have W := Lib.hid (only2 (q := q) ho)
    clear ho HO hp H1 F0 ht
    go_wp2
    exact ⟨rfl, rfl, W.out⟩
  have HO2 := HO.out
  rw [hp, Option.bind_some] at HO2
  dsimp only at HO2
  replace HO := Lib.hid HO2
  have f1 := F0.out.took hr ho
  have c2 := f1.row.cell 2
  have z2 := f1.row.frozen 2
  simp [recCells] at c2
  have F1 := Lib.hid (f1.set 2 (.int .i64 pg) rfl (r' := { r with page := pg }) rfl)
  have W1 := Lib.hid (only2set (only2 (q := q) ho) 2 (.int .i64 pg))
  clear f1 ho hr F0 hp H1 ht HO2
  go_wp2_with fail
  generalize w1.setCell ⟨q, 2, none⟩ (.int .i64 pg) = w2 at *
  clear c2 z2
  -- Off
  have H2 := Lib.hid (small_any F1.out.rd 0 219)
  refine H2.out.mono ?_
  intro e w3 ht
  rcases ht.int with ⟨hp, rfl, ho⟩ | ⟨of, l2, hp, rfl, hr, ho⟩
  · rw [hp] at HO
    obtain rfl : o = none := HO.out
    have W := Lib.hid (W1.out.trans (only2 (q := q) ho))
    clear ho HO hp H2 F1 ht
    go_wp2
    exact ⟨rfl, rfl, W.out⟩
  have HO2 := HO.out
  rw [hp, Option.bind_some] at HO2
  dsimp only at HO2
  replace HO := Lib.hid HO2
  obtain ⟨_, b1, b2, _, _⟩ := smallP_some hp
  have f1 := F1.out.took hr ho
  have c2 := f1.row.cell 3
  have z2 := f1.row.frozen 3
  simp [recCells] at c2
  have f2 := f1.set 3 (.int .i64 of) rfl (r' := { r with page := pg, off := of }) rfl
  have W2 := Lib.hid (W1.out.trans (only2set (only2 (q := q) ho) 3 (.int .i64 of)))
  clear f1 ho hr F1 hp H2 HO2 ht
  have c3 := f2.row.cell 3
  have F2 := Lib.hid f2
  simp [recCells] at c3
  clear f2
  go_wp2_with fail
  all_goals
    clear c2 z2
    generalize w3.setCell ⟨q, 3, none⟩ (.int .i64 of) = w4 at *
    first | rw [show min (16 : Int) (220 - of) = 220 - of from by omega] at HO | rw [show min (16 : Int) (220 - of) = 16 from by omega] at HO
    have H3 := Lib.hid (fun hi => small_any F2.out.rd 1 hi)
    refine (H3.out _).mono ?_
    intro e w5 ht
    rcases ht.int with ⟨hp, rfl, ho⟩ | ⟨n, l3, hp, rfl, hr, ho⟩
    · rw [hp] at HO
      obtain rfl : o = none := HO.out
      have W := Lib.hid (W2.out.trans (only2 (q := q) ho))
      clear ho HO hp H3 F2 ht
      go_wp2
      exact ⟨rfl, rfl, W.out⟩
    have HO2 := HO.out
    rw [hp, Option.bind_some] at HO2
    dsimp only at HO2
    obtain ⟨_, n1, n2, n3, n4⟩ := smallP_some hp
    obtain ⟨m, rfl⟩ := Int.eq_ofNat_of_zero_le n3
    rw [Int.toNat_natCast] at HO2
    replace HO := Lib.hid HO2
    have f1 := F2.out.took hr ho
    have W3 := Lib.hid (W2.out.trans (only2 (q := q) ho))
    have c0 := f1.row.cell 0
    simp [recCells] at c0
    have F3 := Lib.hid f1
    have H4 := Lib.hid (copied_any f1.rd m (by omega))
    clear f1 ho hr F2 hp H3 HO2 c3 ht
    by_cases hk : r.kind = 1
    · have hk' : (r.kind == 1) = true := by rw [hk]; rfl
      rw [if_pos hk] at HO
      have HK := Lib.hid hk
      clear hk
      go_wp2_with fail
      refine H4.out.mono ?_
      intro e w6 ht
      rcases ht.str with ⟨hp, rfl, ho⟩ | ⟨bf, l4, hp, rfl, hr, ho⟩
      · rw [hp] at HO
        obtain rfl : o = none := HO.out
        have W := Lib.hid (W3.out.trans (only2 (q := q) ho))
        clear ho HO hp H4 F3 ht
        go_wp2
        exact ⟨rfl, rfl, W.out⟩
      have HO2 := HO.out
      rw [hp, Option.bind_some] at HO2
      dsimp only at HO2
      replace HO := Lib.hid HO2
      have f1 := F3.out.took hr ho
      have c7 := f1.row.cell 7
      have z7 := f1.row.frozen 7
      simp [recCells] at c7
      have F4 := Lib.hid (f1.set 7 (.string bf) rfl (r' := { r with page := pg, off := of, before := bf }) rfl)
      have W4 := Lib.hid (only2set (W3.out.trans (only2 (q := q) ho)) 7 (.string bf))
      clear f1 ho hr F3 hp H4 ht HO2 c0
      go_wp2_with fail
      generalize w6.setCell ⟨q, 7, none⟩ (.string bf) = w7 at *
      clear c7 z7
      refine (copied_any F4.out.rd m (by omega)).mono ?_
      intro e w8 ht
      rcases ht.str with ⟨hp, rfl, ho⟩ | ⟨af, l5, hp, rfl, hr, ho⟩
      · rw [hp] at HO
        obtain rfl : o = none := HO.out
        have W := Lib.hid (W4.out.trans (only2 (q := q) ho))
        clear ho HO hp F4 ht
        go_wp2
        exact ⟨rfl, rfl, W.out⟩
      have HO2 := HO.out
      rw [hp, Option.map_some] at HO2
      dsimp only at HO2
      have f1 := F4.out.took hr ho
      have c8 := f1.row.cell 8
      have z8 := f1.row.frozen 8
      simp [recCells] at c8
      have F5 := Lib.hid (f1.set 8 (.string af) rfl (r' := { r with page := pg, off := of, before := bf, after := af }) rfl)
      have W5 := Lib.hid (only2set (W4.out.trans (only2 (q := q) ho)) 8 (.string af))
      subst HO2
      clear f1 ho hr F4 hp ht
      go_wp2
      go_end0
      exact ⟨rfl, F5.out, W5.out⟩
    · have hk' : (r.kind == 1) = false := by rw [beq_eq_false_iff_ne]; exact hk
      rw [if_neg hk] at HO
      have HK := Lib.hid hk
      clear hk
      go_wp2_with fail
      refine H4.out.mono ?_
      intro e w6 ht
      rcases ht.str with ⟨hp, rfl, ho⟩ | ⟨af, l4, hp, rfl, hr, ho⟩
      · rw [hp] at HO
        obtain rfl : o = none := HO.out
        have W := Lib.hid (W3.out.trans (only2 (q := q) ho))
        clear ho HO hp H4 F3 ht
        go_wp2
        exact ⟨rfl, rfl, W.out⟩
      have HO2 := HO.out
      rw [hp, Option.map_some] at HO2
      dsimp only at HO2
      have f1 := F3.out.took hr ho
      have c8 := f1.row.cell 8
      have z8 := f1.row.frozen 8
      simp [recCells] at c8
      have F4 := Lib.hid (f1.set 8 (.string af) rfl (r' := { r with page := pg, off := of, after := af }) rfl)
      have W4 := Lib.hid (only2set (W3.out.trans (only2 (q := q) ho)) 8 (.string af))
      subst HO2
      clear f1 ho hr F3 hp H4 ht
      go_wp2
      go_end0
      exact ⟨rfl, F4.out, W4.out⟩
end Go.Proofs.Ytpcfhpffbogjmaa
