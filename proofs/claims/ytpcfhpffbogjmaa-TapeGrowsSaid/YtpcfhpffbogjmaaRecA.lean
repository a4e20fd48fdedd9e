/- Package record: the reader's parts. -/
import Derived.Test.YtpcfhpffbogjmaaRecM
import Derived.Test.YtpcfhpffbogjmaaClone
import Derived.Test.YtpcfhpffbogjmaaNum4
import Derived.Test.YtpcfhpffbogjmaaRegionF
import Derived.StillTailTactics
import Derived.Laws.Panics
namespace Go.Proofs.Ytpcfhpffbogjmaa
open Go.RowKit

/-- The reader stands in block g, with l before it in the text s. -/
def Rd (w : World) (g : Nat) (s : ByteArray) (l : List UInt8) : Prop :=
  ∃ k : Nat, k ≤ s.size ∧ s.size ≤ maxLen ∧ l = s.data.toList.drop k ∧ Blk w g 121 #[.string s, .int .i64 k]
def gaveUp : List PanicEntry := [{ v := .iface 23 (.int .i64 3), recovered := false }]
/-- What a part that is taken comes to: the value, and the reader behind it; or the reading is given up. -/
def Took (w : World) (g : Nat) (s : ByteArray) (o : Option (Value × List UInt8)) (e : Ending) (w' : World) : Prop :=
  match o with
  | some (v, l) => e = .returned v ∧ Rd w' g s l ∧ Only (· = g) w w'
  | none => e = .panicked gaveUp ∧ Only (· = g) w w'

theorem Took.int {w w' : World} {g : Nat} {s : ByteArray} {o : Option (Int × List UInt8)} {e : Ending} (h : Took w g s (o.map fun x => (.int .i64 x.1, x.2)) e w') :
    (o = none ∧ e = .panicked gaveUp ∧ Only (· = g) w w') ∨ ∃ n l, o = some (n, l) ∧ e = .returned (.int .i64 n) ∧ Rd w' g s l ∧ Only (· = g) w w' := by
  cases o with
  | none => exact .inl ⟨rfl, h⟩
  | some x => exact .inr ⟨x.1, x.2, rfl, h⟩
theorem Took.str {w w' : World} {g : Nat} {s : ByteArray} {o : Option (ByteArray × List UInt8)} {e : Ending} (h : Took w g s (o.map fun x => (.string x.1, x.2)) e w') :
    (o = none ∧ e = .panicked gaveUp ∧ Only (· = g) w w') ∨ ∃ n l, o = some (n, l) ∧ e = .returned (.string n) ∧ Rd w' g s l ∧ Only (· = g) w w' := by
  cases o with
  | none => exact .inl ⟨rfl, h⟩
  | some x => exact .inr ⟨x.1, x.2, rfl, h⟩

theorem need_yes {b : Bool} (hb : b = true) (w : World) : Calls Try.prog 83 #[.bool b] w fun e w' => e = .returned (.tuple #[]) ∧ w = w' := by
  subst hb
  go_enter Try.func83, Try.ntmps83
  go_wp2
  go_end0
  exact ⟨rfl, rfl⟩
theorem need_no {b : Bool} (hb : b = false) (w : World) : Calls Try.prog 83 #[.bool b] w fun e w' => e = .panicked gaveUp ∧ w = w' := by
  subst hb
  go_enter Try.func83, Try.ntmps83
  go_wp2
  exact ⟨rfl, rfl, rfl⟩

theorem Rd.mk' {w : World} {g k : Nat} {s : ByteArray} (h1 : k ≤ s.size) (h2 : s.size ≤ maxLen) (hb : Blk w g 121 #[.string s, .int .i64 k]) {l : List UInt8} (hl : l = s.data.toList.drop k) : Rd w g s l := ⟨k, h1, h2, hl, hb⟩
theorem Rd.drawn {w : World} {g : Nat} {s : ByteArray} {l : List UInt8} (h : Rd w g s l) (n : Nat) : Rd (w.drewN n) g s l := h

set_option maxRecDepth 100000 in
set_option maxHeartbeats 1000000 in
theorem take_no {w : World} {g : Nat} {s : ByteArray} {l : List UInt8} (h : Rd w g s l) (n : Nat) (hn : l.length < n) (hm : n < 2147483648) :
    Calls Try.prog 82 #[.pointer (some ⟨g, 0, none⟩), .int .i64 n] w fun e w' => e = .panicked gaveUp ∧ Only (· = g) w w' := by
  obtain ⟨k, hk, hs, hl, hb⟩ := h
  have hlen : l.length = s.size - k := by rw [hl, List.length_drop]; rfl
  have hlt : ¬ (n : Int) ≤ (s.size : Int) - (k : Int) := by omega
  have c0 := hb.cellAt (i := 0) (by simp)
  have c1 := hb.cellAt (i := 1) (by simp)
  simp at c0 c1
  unfold maxLen at hs
  have hk0 : (k : Int) ≤ s.size := by omega
  clear hl hlen hb hn
  go_enter Try.func82, Try.ntmps82
  go_wp2_with fail
  go_still_tail 12, (by kernel_rfl)
  go_wp2_with fail
  refine (need_no (by simp; omega) _).mono ?_
  rintro e w1 ⟨rfl, rfl⟩
  go_wp2
  exact ⟨rfl, rfl, (Only.refl _ _).drew⟩

theorem extract_list (s : ByteArray) (a b : Nat) : (s.extract a b).data.toList = (s.data.toList.drop a).take (b - a) := by
  rw [ByteArray.data_extract, Array.toList_extract, List.extract_eq_take_drop]

set_option maxRecDepth 100000 in
set_option maxHeartbeats 1000000 in
theorem take_ok {w : World} {g : Nat} {s : ByteArray} {l : List UInt8} (h : Rd w g s l) (n : Nat) (hn : n ≤ l.length) (hm : n < 2147483648) :
    Calls Try.prog 82 #[.pointer (some ⟨g, 0, none⟩), .int .i64 n] w fun e w' => e = .returned (.string ⟨(l.take n).toArray⟩) ∧ Rd w' g s (l.drop n) ∧ Only (· = g) w w' := by
  obtain ⟨k, hk, hs, hl, hb⟩ := h
  have hlen : l.length = s.size - k := by rw [hl, List.length_drop]; rfl
  have hle : (n : Int) ≤ (s.size : Int) - (k : Int) := by omega
  have hkn : k + n ≤ s.size := by omega
  have c0 := hb.cellAt (i := 0) (by simp)
  have c1 := hb.cellAt (i := 1) (by simp)
  simp at c0 c1
  have f1 := hb.frozen 1
  have hex : s.extract k (k + n) = ⟨(l.take n).toArray⟩ := by
    apply str_ext
    rw [extract_list, hl, Nat.add_sub_cancel_left]
  have HEX := Lib.hid hex
  have hsl := slice_str (P := Try.prog) 9 Try.underlying9 s k (k + n) .i64 .i64 k ((k : Int) + (n : Int)) rfl (by omega) (by omega) (by omega)
  have hs' := hs
  unfold maxLen at hs
  have hk0 : (k : Int) ≤ s.size := by omega
  have HL := Lib.hid hl
  have HB := Lib.hid hb
  have HS := Lib.hid hs'
  clear hl hlen hb hn hex hs'
  go_enter Try.func82, Try.ntmps82
  go_wp2_with fail
  go_still_tail 12, (by kernel_rfl)
  go_wp2_with fail
  refine (need_yes (by simp; omega) _).mono ?_
  rintro e w1 ⟨rfl, rfl⟩
  go_wp2_with fail
  go_quiet (fail)
  go_wp2_with fail
  go_ret
  refine ⟨?_, ⟨k + n, hkn, HS.out, by rw [HL.out, List.drop_drop], ?_⟩, ?_⟩
  · show Ending.returned (.string (s.extract k (k + n))) = _
    rw [HEX.out]
  · rw [show (#[Value.string s, .int .i64 ((k + n : Nat) : Int)] : Array Value) = (#[Value.string s, .int .i64 k]).setIfInBounds 1 (.int .i64 ((k : Int) + n)) from by simp]
    exact (HB.out.drewN _).set 1 _
  · exact ((Only.refl (· = g) w).drewN _).set (p := ⟨g, 1, none⟩) (.inl rfl) _

set_option maxRecDepth 100000 in
set_option maxHeartbeats 1000000 in
theorem small_any {w : World} {g : Nat} {s : ByteArray} {l : List UInt8} (h : Rd w g s l) (lo hi : Int) :
    Calls Try.prog 75 #[.pointer (some ⟨g, 0, none⟩), .int .i64 lo, .int .i64 hi] w (Took w g s ((smallP lo hi l).map fun x => (.int .i64 x.1, x.2))) := by
  cases l with
  | nil =>
    have H1 := Lib.hid (take_no h 1 (by simp) (by omega))
    clear h
    go_enter Try.func75, Try.ntmps75
    go_wp2_with fail
    refine H1.out.mono ?_
    rintro e w1 ⟨rfl, ho⟩
    have HO := Lib.hid ho
    clear ho
    go_wp2
    exact ⟨rfl, rfl, HO.out⟩
  | cons b l =>
    have H1 := Lib.hid (take_ok h 1 (by simp) (by omega))
    clear h
    have hb : (b.toNat : Int) < 256 := by have := b.toNat_lt; omega
    have hb0 : (0 : Int) ≤ b.toNat := Int.natCast_nonneg _
    have hi0 : 0 < (({ data := (List.take 1 (b :: l)).toArray } : ByteArray)).size := by simp [ByteArray.size]
    have hx : (({ data := #[b] } : ByteArray)[0]'(by simp [ByteArray.size])) = b := rfl
    have hw : wrap64 (b.toNat : Int) = (b.toNat : Int) := by unfold wrap64; omega
    have hm : (smallP lo hi (b :: l)).map (fun x => ((.int .i64 x.1, x.2) : Value × List UInt8)) = if lo ≤ (b.toNat : Int) ∧ (b.toNat : Int) ≤ hi then some (.int .i64 b.toNat, l) else none := by
      show Option.map _ (if _ then _ else _) = _
      split <;> rfl
    rw [hm]
    clear hm
    by_cases hin : lo ≤ (b.toNat : Int) ∧ (b.toNat : Int) ≤ hi
    · rw [if_pos hin]
      obtain ⟨h1, h2⟩ := hin
      go_enter Try.func75, Try.ntmps75
      go_wp2_with fail
      refine H1.out.mono ?_
      rintro e w1 ⟨rfl, hr, ho⟩
      have HO := Lib.hid ho
      have HR := Lib.hid hr
      clear ho hr
      go_wp2_with fail
      refine (need_yes (by first | rfl | omega | (simp; omega)) _).mono ?_
      rintro e w2 ⟨rfl, rfl⟩
      go_wp2_with fail
      go_ret
      exact ⟨rfl, HR.out, HO.out⟩
    · rw [if_neg hin]
      go_enter Try.func75, Try.ntmps75
      go_wp2_with fail
      refine H1.out.mono ?_
      rintro e w1 ⟨rfl, hr, ho⟩
      have HO := Lib.hid ho
      clear ho hr
      go_wp2_with fail
      all_goals
        refine (need_no (by first | rfl | omega | (simp; omega)) _).mono ?_
        rintro e w2 ⟨rfl, rfl⟩
        go_wp2_with fail
        exact ⟨rfl, rfl, HO.out⟩

set_option maxRecDepth 100000 in
theorem rdPage_any {w : World} {g : Nat} {s : ByteArray} {l : List UInt8} (h : Rd w g s l) :
    Calls Try.prog 84 #[.pointer (some ⟨g, 0, none⟩)] w (Took w g s ((smallP 0 7 l).map fun x => (.int .i64 x.1, x.2))) := by
  have H1 := Lib.hid (small_any h 0 7)
  clear h
  cases hp : smallP 0 7 l with
  | none =>
    rw [hp] at H1
    clear hp
    go_enter Try.func84, Try.ntmps84
    go_wp2_with fail
    refine H1.out.mono ?_
    rintro e w1 ⟨rfl, ho⟩
    have HO := Lib.hid ho
    clear ho
    go_wp2
    exact ⟨rfl, rfl, HO.out⟩
  | some x =>
    rw [hp] at H1
    clear hp
    go_enter Try.func84, Try.ntmps84
    go_wp2_with fail
    refine H1.out.mono ?_
    rintro e w1 ⟨rfl, hr, ho⟩
    have HO := Lib.hid ho
    have HR := Lib.hid hr
    clear ho hr
    go_wp2
    go_ret
    exact ⟨rfl, HR.out, HO.out⟩

set_option maxRecDepth 100000 in
theorem copied_any {w : World} {g : Nat} {s : ByteArray} {l : List UInt8} (h : Rd w g s l) (n : Nat) (hm : n < 2147483648) :
    Calls Try.prog 85 #[.pointer (some ⟨g, 0, none⟩), .int .i64 n] w (Took w g s ((txtP n l).map fun x => (.string x.1, x.2))) := by
  unfold txtP
  by_cases hn : n ≤ l.length
  · rw [if_pos hn]
    have H1 := Lib.hid (take_ok h n hn hm)
    have hs : (⟨(l.take n).toArray⟩ : ByteArray).size ≤ 281474976710656 := by
      show (l.take n).toArray.size ≤ _
      simp
      omega
    have H2 := Lib.hid (fun W => cloneS_any _ W hs)
    clear h hn hs
    go_enter Try.func85, Try.ntmps85
    go_wp2_with fail
    refine H1.out.mono ?_
    rintro e w1 ⟨rfl, hr, ho⟩
    have HO := Lib.hid ho
    have HR := Lib.hid hr
    clear ho hr
    go_wp2_with fail
    refine (H2.out _).mono ?_
    rintro e w2 ⟨rfl, hb⟩
    obtain ⟨k, h1, h2, h3, h4⟩ := HR.out
    have HF := Lib.hid (⟨⟨k, h1, h2, h3, h4.keep hb h4.lt⟩, HO.out.more hb⟩ : Rd w2 g s (l.drop n) ∧ Only (· = g) w w2)
    clear h1 h2 h3 h4 hb
    go_wp2
    go_ret
    exact ⟨rfl, HF.out⟩
  · rw [if_neg hn]
    have H1 := Lib.hid (take_no h n (by omega) hm)
    clear h hn
    go_enter Try.func85, Try.ntmps85
    go_wp2_with fail
    refine H1.out.mono ?_
    rintro e w1 ⟨rfl, ho⟩
    have HO := Lib.hid ho
    clear ho
    go_wp2
    exact ⟨rfl, rfl, HO.out⟩
end Go.Proofs.Ytpcfhpffbogjmaa
