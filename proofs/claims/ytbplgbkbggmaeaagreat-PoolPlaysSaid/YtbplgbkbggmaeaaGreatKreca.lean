/- Texts that belong together, joined: RecA, RecB, RecC, RecD. -/
import Derived.Test.YtbplgbkbggmaeaaGreatKrec
import Derived.Test.YtbplgbkbggmaeaaGreatKbase
import Derived.Test.YtbplgbkbggmaeaaGreatKreg
import Derived.StillTailTactics
import Derived.Laws.Panics
import Derived.Lib.ConvBytes
namespace Go.Proofs.YtbplgbkbggmaeaaGreat
open Go.RowKit
def Rd (w : World) (g : Nat) (s : ByteArray) (l : List UInt8) : Prop :=
 ∃ k : Nat, k ≤ s.size ∧ s.size ≤ maxLen ∧ l = s.data.toList.drop k ∧ Blk w g 174 #[.string s, .int .i64 k]
def gaveUp : List PanicEntry := [{ v := .iface 29 (.int .i64 3), recovered := false }]
def Took (w : World) (g : Nat) (s : ByteArray) (o : Option (Value × List UInt8)) (e : Ending) (w' : World) : Prop :=
 match o with
 | some (v, l) => e = .returned v ∧ Rd w' g s l ∧ Only (· = g) w w'
 | none => e = .panicked gaveUp ∧ Only (· = g) w w'
theorem Took.int {w w' : World} {g : Nat} {s : ByteArray} {o : Option (Int × List UInt8)} {e : Ending} (h : Took w g s (o.map fun x => (.int .i64 x.1, x.2)) e w') :
   (o = none ∧ e = .panicked gaveUp ∧ Only (· = g) w w') ∨ ∃ n l, o = some (n, l) ∧ e = .returned (.int .i64 n) ∧ Rd w' g s l ∧ Only (· = g) w w' := by
 cases o with
 | none => exact .inl ⟨rfl, h⟩
 | some x => exact .inr ⟨x.1, x.2, rfl, h⟩
theorem Took.str {w w' : World} {g : Nat} {s : ByteArray} {o : Option (ByteArray × List UInt8)} {e : Ending} (h : Took w g s (o.map fun x => (.string x.1, x.2)) e w') :
   (o = none ∧ e = .panicked gaveUp ∧ Only (· = g) w w') ∨ ∃ n l, o = some (n, l) ∧ e = .returned (.string n) ∧ Rd w' g s l ∧ Only (· = g) w w' := by
 cases o with
 | none => exact .inl ⟨rfl, h⟩
 | some x => exact .inr ⟨x.1, x.2, rfl, h⟩
theorem need_yes {b : Bool} (hb : b = true) (w : World) : Calls Tryz.prog 156 #[.bool b] w fun e w' => e = .returned (.tuple #[]) ∧ w = w' := by
 subst hb
 go_enter Tryz.func156, Tryz.ntmps156
 go_wp2
 go_end0
 exact ⟨rfl, rfl⟩
theorem need_no {b : Bool} (hb : b = false) (w : World) : Calls Tryz.prog 156 #[.bool b] w fun e w' => e = .panicked gaveUp ∧ w = w' := by
 subst hb
 go_enter Tryz.func156, Tryz.ntmps156
 go_wp2
 exact ⟨rfl, rfl, rfl⟩
set_option maxRecDepth 100000 in
set_option maxHeartbeats 1000000 in
theorem take_no {w : World} {g : Nat} {s : ByteArray} {l : List UInt8} (h : Rd w g s l) (n : Nat) (hn : l.length < n) (hm : n < 2147483648) :
   Calls Tryz.prog 155 #[.pointer (some ⟨g, 0, none⟩), .int .i64 n] w fun e w' => e = .panicked gaveUp ∧ Only (· = g) w w' := by
 obtain ⟨k, hk, hs, hl, hb⟩ := h
 have hlen : l.length = s.size - k := by rw [hl, List.length_drop]; rfl
 have hlt : ¬ (n : Int) ≤ (s.size : Int) - (k : Int) := by omega
 have c0 := hb.cellAt (i := 0) (by simp)
 have c1 := hb.cellAt (i := 1) (by simp)
 simp at c0 c1
 unfold maxLen at hs
 have hk0 : (k : Int) ≤ s.size := by omega
 clear hl hlen hb hn
 go_enter Tryz.func155, Tryz.ntmps155
 go_wp2_with fail
 go_still_tail 12, (by kernel_rfl)
 go_wp2_with fail
 refine (need_no (by simp; omega) _).mono ?_
 rintro e w1 ⟨rfl, rfl⟩
 go_wp2
 exact ⟨rfl, rfl, (Only.refl _ _).drew⟩
theorem extract_list (s : ByteArray) (a b : Nat) : (s.extract a b).data.toList = (s.data.toList.drop a).take (b - a) := by
 rw [ByteArray.data_extract, Array.toList_extract, List.extract_eq_take_drop]
set_option maxRecDepth 100000 in
set_option maxHeartbeats 1000000 in
theorem take_ok {w : World} {g : Nat} {s : ByteArray} {l : List UInt8} (h : Rd w g s l) (n : Nat) (hn : n ≤ l.length) (hm : n < 2147483648) :
   Calls Tryz.prog 155 #[.pointer (some ⟨g, 0, none⟩), .int .i64 n] w fun e w' => e = .returned (.string ⟨(l.take n).toArray⟩) ∧ Rd w' g s (l.drop n) ∧ Only (· = g) w w' := by
 obtain ⟨k, hk, hs, hl, hb⟩ := h
 have hlen : l.length = s.size - k := by rw [hl, List.length_drop]; rfl
 have hle : (n : Int) ≤ (s.size : Int) - (k : Int) := by omega
 have hkn : k + n ≤ s.size := by omega
 have c0 := hb.cellAt (i := 0) (by simp)
 have c1 := hb.cellAt (i := 1) (by simp)
 simp at c0 c1
 have f1 := hb.frozen 1
 have hex : s.extract k (k + n) = ⟨(l.take n).toArray⟩ := by
   apply str_ext
   rw [extract_list, hl, Nat.add_sub_cancel_left]
 have HEX := Lib.hid hex
 have hsl := slice_str (P := Tryz.prog) 9 Tryz.underlying9 s k (k + n) .i64 .i64 k ((k : Int) + (n : Int)) rfl (by omega) (by omega) (by omega)
 have hs' := hs
 unfold maxLen at hs
 have hk0 : (k : Int) ≤ s.size := by omega
 have HL := Lib.hid hl
 have HB := Lib.hid hb
 have HS := Lib.hid hs'
 clear hl hlen hb hn hex hs'
 go_enter Tryz.func155, Tryz.ntmps155
 go_wp2_with fail
 go_still_tail 12, (by kernel_rfl)
 go_wp2_with fail
 refine (need_yes (by simp; omega) _).mono ?_
 rintro e w1 ⟨rfl, rfl⟩
 go_wp2_with fail
 go_quiet (fail)
 go_wp2_with fail
 go_ret
 refine ⟨?_, ⟨k + n, hkn, HS.out, by rw [HL.out, List.drop_drop], ?_⟩, ?_⟩
 · show Ending.returned (.string (s.extract k (k + n))) = _
   rw [HEX.out]
 · rw [show (#[Value.string s, .int .i64 ((k + n : Nat) : Int)] : Array Value) = (#[Value.string s, .int .i64 k]).setIfInBounds 1 (.int .i64 ((k : Int) + n)) from by simp]
   exact (HB.out.drewN _).set 1 _
 · exact ((Only.refl (· = g) w).drewN _).set (p := ⟨g, 1, none⟩) (.inl rfl) _
set_option maxRecDepth 100000 in
set_option maxHeartbeats 1000000 in
theorem small_any {w : World} {g : Nat} {s : ByteArray} {l : List UInt8} (h : Rd w g s l) (lo hi : Int) :
   Calls Tryz.prog 130 #[.pointer (some ⟨g, 0, none⟩), .int .i64 lo, .int .i64 hi] w (Took w g s ((smallP lo hi l).map fun x => (.int .i64 x.1, x.2))) := by
 cases l with
 | nil =>
   have H1 := Lib.hid (take_no h 1 (by simp) (by omega))
   clear h
   go_enter Tryz.func130, Tryz.ntmps130
   go_wp2_with fail
   refine H1.out.mono ?_
   rintro e w1 ⟨rfl, ho⟩
   have HO := Lib.hid ho
   clear ho
   go_wp2
   exact ⟨rfl, rfl, HO.out⟩
 | cons b l =>
   have H1 := Lib.hid (take_ok h 1 (by simp) (by omega))
   clear h
   have hb : (b.toNat : Int) < 256 := by have := b.toNat_lt; omega
   have hb0 : (0 : Int) ≤ b.toNat := Int.natCast_nonneg _
   have hi0 : 0 < (({ data := (List.take 1 (b :: l)).toArray } : ByteArray)).size := by simp [ByteArray.size]
   have hx : (({ data := #[b] } : ByteArray)[0]'(by simp [ByteArray.size])) = b := rfl
   have hw : wrap64 (b.toNat : Int) = (b.toNat : Int) := by unfold wrap64; omega
   have hm : (smallP lo hi (b :: l)).map (fun x => ((.int .i64 x.1, x.2) : Value × List UInt8)) = if lo ≤ (b.toNat : Int) ∧ (b.toNat : Int) ≤ hi then some (.int .i64 b.toNat, l) else none := by
     show Option.map _ (if _ then _ else _) = _
     split <;> rfl
   rw [hm]
   clear hm
   by_cases hin : lo ≤ (b.toNat : Int) ∧ (b.toNat : Int) ≤ hi
   · rw [if_pos hin]
     obtain ⟨h1, h2⟩ := hin
     go_enter Tryz.func130, Tryz.ntmps130
     go_wp2_with fail
     refine H1.out.mono ?_
     rintro e w1 ⟨rfl, hr, ho⟩
     have HO := Lib.hid ho
     have HR := Lib.hid hr
     clear ho hr
     go_wp2_with fail
     refine (need_yes (by first | rfl | omega | (simp; omega)) _).mono ?_
     rintro e w2 ⟨rfl, rfl⟩
     go_wp2_with fail
     go_ret
     exact ⟨rfl, HR.out, HO.out⟩
   · rw [if_neg hin]
     go_enter Tryz.func130, Tryz.ntmps130
     go_wp2_with fail
     refine H1.out.mono ?_
     rintro e w1 ⟨rfl, hr, ho⟩
     have HO := Lib.hid ho
     clear ho hr
     go_wp2_with fail
     all_goals
       refine (need_no (by first | rfl | omega | (simp; omega)) _).mono ?_
       rintro e w2 ⟨rfl, rfl⟩
       go_wp2_with fail
       exact ⟨rfl, rfl, HO.out⟩
set_option maxRecDepth 100000 in
theorem rdPage_any {w : World} {g : Nat} {s : ByteArray} {l : List UInt8} (h : Rd w g s l) :
   Calls Tryz.prog 157 #[.pointer (some ⟨g, 0, none⟩)] w (Took w g s ((smallP 0 7 l).map fun x => (.int .i64 x.1, x.2))) := by
 have H1 := Lib.hid (small_any h 0 7)
 clear h
 cases hp : smallP 0 7 l with
 | none =>
   rw [hp] at H1
   clear hp
   go_enter Tryz.func157, Tryz.ntmps157
   go_wp2_with fail
   refine H1.out.mono ?_
   rintro e w1 ⟨rfl, ho⟩
   have HO := Lib.hid ho
   clear ho
   go_wp2
   exact ⟨rfl, rfl, HO.out⟩
 | some x =>
   rw [hp] at H1
   clear hp
   go_enter Tryz.func157, Tryz.ntmps157
   go_wp2_with fail
   refine H1.out.mono ?_
   rintro e w1 ⟨rfl, hr, ho⟩
   have HO := Lib.hid ho
   have HR := Lib.hid hr
   clear ho hr
   go_wp2
   go_ret
   exact ⟨rfl, HR.out, HO.out⟩
set_option maxRecDepth 100000 in
theorem copied_any {w : World} {g : Nat} {s : ByteArray} {l : List UInt8} (h : Rd w g s l) (n : Nat) (hm : n < 2147483648) :
   Calls Tryz.prog 158 #[.pointer (some ⟨g, 0, none⟩), .int .i64 n] w (Took w g s ((txtP n l).map fun x => (.string x.1, x.2))) := by
 unfold txtP
 by_cases hn : n ≤ l.length
 · rw [if_pos hn]
   have H1 := Lib.hid (take_ok h n hn hm)
   have hs : (⟨(l.take n).toArray⟩ : ByteArray).size ≤ 281474976710656 := by
     show (l.take n).toArray.size ≤ _
     simp
     omega
   have H2 := Lib.hid (fun W => cloneS_any _ W hs)
   clear h hn hs
   go_enter Tryz.func158, Tryz.ntmps158
   go_wp2_with fail
   refine H1.out.mono ?_
   rintro e w1 ⟨rfl, hr, ho⟩
   have HO := Lib.hid ho
   have HR := Lib.hid hr
   clear ho hr
   go_wp2_with fail
   refine (H2.out _).mono ?_
   rintro e w2 ⟨rfl, hb⟩
   obtain ⟨k, h1, h2, h3, h4⟩ := HR.out
   have HF := Lib.hid (⟨⟨k, h1, h2, h3, h4.keep hb h4.lt⟩, HO.out.more hb⟩ : Rd w2 g s (l.drop n) ∧ Only (· = g) w w2)
   clear h1 h2 h3 h4 hb
   go_wp2
   go_ret
   exact ⟨rfl, HF.out⟩
 · rw [if_neg hn]
   have H1 := Lib.hid (take_no h n (by omega) hm)
   clear h hn
   go_enter Tryz.func158, Tryz.ntmps158
   go_wp2_with fail
   refine H1.out.mono ?_
   rintro e w1 ⟨rfl, ho⟩
   have HO := Lib.hid ho
   clear ho
   go_wp2
   exact ⟨rfl, rfl, HO.out⟩
end Go.Proofs.YtbplgbkbggmaeaaGreat

namespace Go.Proofs.YtbplgbkbggmaeaaGreat
open Go.RowKit
set_option maxRecDepth 100000 in
set_option maxHeartbeats 2000000 in
theorem number_no {w : World} {g : Nat} {s : ByteArray} {l : List UInt8} (h : Rd w g s l) (lo : Nat) (hl : l.length < 4) :
   Calls Tryz.prog 131 #[.pointer (some ⟨g, 0, none⟩), .int .u32 lo] w (Took w g s none) := by
 have H1 := Lib.hid (take_no h 4 hl (by omega))
 clear h
 go_enter Tryz.func131, Tryz.ntmps131
 go_wp2_with fail
 refine H1.out.mono ?_
 rintro e w1 ⟨rfl, ho⟩
 have HO := Lib.hid ho
 clear ho
 go_wp2
 exact ⟨rfl, rfl, HO.out⟩
theorem bytesWorld_below (w : World) (e : TypeId) (s : ByteArray) : Below w.heap.size w (Lib.bytesWorld w e s) :=
 ⟨rfl, rfl, rfl, by rw [Lib.bytesWorld_size]; omega, fun b hb => Lib.bytesWorld_at_old w e s b hb⟩
set_option maxRecDepth 100000 in
set_option maxHeartbeats 2000000 in
theorem number_four {w : World} {g : Nat} {s : ByteArray} {a b c d : UInt8} {l : List UInt8} (h : Rd w g s (a :: b :: c :: d :: l)) (lo : Nat) (o : Option (Value × List UInt8))
   (hy : o = if lo ≤ val4 a b c d ∧ val4 a b c d ≤ 2147483647 then some (.int .i64 (val4 a b c d), l) else none) :
   Calls Tryz.prog 131 #[.pointer (some ⟨g, 0, none⟩), .int .u32 lo] w (Took w g s o) := by
 have H1 := Lib.hid (take_ok h 4 (by simp) (by omega))
 clear h
 have HY := Lib.hid hy
 clear hy
 have ba : (a.toNat : Int) < 256 := by have := a.toNat_lt; omega
 have bb : (b.toNat : Int) < 256 := by have := b.toNat_lt; omega
 have bc : (c.toNat : Int) < 256 := by have := c.toNat_lt; omega
 have bd : (d.toNat : Int) < 256 := by have := d.toNat_lt; omega
 have hor : bits .or .u32 (bits .or .u32 (bits .or .u32 (bits .or .u32 0 (a.toNat : Int) * 256 % 4294967296) (b.toNat : Int) * 256 % 4294967296) (c.toNat : Int) * 256 % 4294967296) (d.toNat : Int) = ((val4 a b c d : Nat) : Int) :=
   or_be _ _ _ _ (by omega) (by omega) (by omega) (by omega)
 have hv : val4 a b c d < 4294967296 := by unfold val4; omega
 generalize val4 a b c d = n at *
 have hn0 : (0 : Int) ≤ n := Int.natCast_nonneg _
 have hwr : wrap64 (n : Int) = n := by unfold wrap64; omega
 go_enter Tryz.func131, Tryz.ntmps131
 go_wp2_with fail
 refine H1.out.mono ?_
 rintro e w1 ⟨rfl, hr, ho⟩
 have HO := Lib.hid ho
 have HR := Lib.hid hr
 clear ho hr
 have hcv := Lib.run_convert_string_bytes (P := Tryz.prog) w1 9 136 5 ⟨#[a, b, c, d]⟩ Tryz.underlying9 Tryz.underlying136 Tryz.underlying5
 have hcell := fun j hj => Lib.bytesWorld_cell w1 5 ⟨#[a, b, c, d]⟩ j hj
 have c0 := hcell 0 (by simp [ByteArray.size])
 have c1 := hcell 1 (by simp [ByteArray.size])
 have c2 := hcell 2 (by simp [ByteArray.size])
 have c3 := hcell 3 (by simp [ByteArray.size])
 simp at c0 c1 c2 c3
 have hbw := bytesWorld_below w1 5 ⟨#[a, b, c, d]⟩
 generalize Lib.bytesWorld w1 5 ⟨#[a, b, c, d]⟩ = w2 at *
 generalize grownCap w1 (⟨#[a, b, c, d]⟩ : ByteArray).size 0 5 = cap at *
 rw [show (⟨#[a, b, c, d]⟩ : ByteArray).size = 4 from rfl] at hcv
 have hw : Only (· = g) w w2 ∧ Rd w2 g s l := by
   obtain ⟨k, h1, h2, h3, h4⟩ := HR.out
   exact ⟨HO.out.more hbw, k, h1, h2, h3, h4.keep hbw h4.lt⟩
 have HW := Lib.hid hw
 clear hbw hcell HO HR hw
 by_cases hin : lo ≤ n ∧ n ≤ 2147483647
 · obtain rfl : o = some (.int .i64 n, l) := by rw [HY.out, if_pos hin]
   obtain ⟨h1, h2⟩ := hin
   clear HY
   go_wp2_with fail
   refine wp_loop_rounds 5 ?_
   iterate 4
     rw [rounds_succ]
     go_wp2
   rw [rounds_succ]
   go_wp2_with fail
   refine (need_yes (by first | rfl | omega | (simp; omega)) _).mono ?_
   rintro e w3 ⟨rfl, rfl⟩
   go_wp2_with fail
   go_ret
   exact ⟨rfl, HW.out.2, HW.out.1⟩
 · obtain rfl : o = none := by rw [HY.out, if_neg hin]
   clear HY
   go_wp2_with fail
   refine wp_loop_rounds 5 ?_
   iterate 4
     rw [rounds_succ]
     go_wp2
   rw [rounds_succ]
   go_wp2_with fail
   all_goals
     refine (need_no (by first | rfl | omega | (simp; omega)) _).mono ?_
     rintro e w3 ⟨rfl, rfl⟩
     go_wp2_with fail
     exact ⟨rfl, rfl, HW.out.1⟩
theorem rdnum_any {w : World} {g : Nat} {s : ByteArray} {l : List UInt8} (h : Rd w g s l) (lo : Nat) :
   Calls Tryz.prog 131 #[.pointer (some ⟨g, 0, none⟩), .int .u32 lo] w (Took w g s ((numP lo l).map fun x => (.int .i64 x.1, x.2))) := by
 match l, h with
 | [], h => exact number_no h lo (by simp)
 | [_], h => exact number_no h lo (by simp)
 | [_, _], h => exact number_no h lo (by simp)
 | [_, _, _], h => exact number_no h lo (by simp)
 | a :: b :: c :: d :: l, h =>
   refine number_four h lo _ ?_
   show Option.map _ (if _ then _ else _) = _
   by_cases hin : lo ≤ val4 a b c d ∧ val4 a b c d ≤ 2147483647
   · rw [if_pos hin, if_pos (by omega)]
     rfl
   · rw [if_neg hin, if_neg (by omega)]
     rfl
theorem rdnum1 {w : World} {g : Nat} {s : ByteArray} {l : List UInt8} (h : Rd w g s l) :
   Calls Tryz.prog 131 #[.pointer (some ⟨g, 0, none⟩), .int .u32 1] w (Took w g s ((numP 1 l).map fun x => (.int .i64 x.1, x.2))) := rdnum_any h 1
theorem rdnum0 {w : World} {g : Nat} {s : ByteArray} {l : List UInt8} (h : Rd w g s l) :
   Calls Tryz.prog 131 #[.pointer (some ⟨g, 0, none⟩), .int .u32 0] w (Took w g s ((numP 0 l).map fun x => (.int .i64 x.1, x.2))) := rdnum_any h 0
end Go.Proofs.YtbplgbkbggmaeaaGreat

namespace Go.Proofs.YtbplgbkbggmaeaaGreat
open Go.RowKit
structure Fill (w : World) (g q : Nat) (s : ByteArray) (l : List UInt8) (r : Rc) (vt vp : Value) : Prop where
 rd : Rd w g s l
 row : Blk w q 49 (recCells r vt vp)
 ne : q ≠ g
abbrev Two (g q : Nat) : Nat → Prop := fun b => b = g ∨ b = q
namespace Fill
variable {w w' : World} {g q : Nat} {s : ByteArray} {l l' : List UInt8} {r r' : Rc} {vt vp : Value}
theorem took (h : Fill w g q s l r vt vp) (hr : Rd w' g s l') (ho : Only (· = g) w w') : Fill w' g q s l' r vt vp := ⟨hr, ho.blk h.row h.ne, h.ne⟩
theorem more (h : Fill w g q s l r vt vp) (hb : Below w.heap.size w w') : Fill w' g q s l r vt vp := by
 obtain ⟨⟨k, h1, h2, h3, h4⟩, h5, h6⟩ := h
 exact ⟨⟨k, h1, h2, h3, h4.keep hb h4.lt⟩, h5.keep hb h5.lt, h6⟩
theorem drew (h : Fill w g q s l r vt vp) : Fill w.drew g q s l r vt vp := ⟨h.rd, h.row, h.ne⟩
theorem grown (h : Fill w g q s l r vt vp) {row : Option Nat} (hg : w.grownBy w' row) (h1 : row ≠ some g) (h2 : row ≠ some q) : Fill w' g q s l r vt vp := by
 obtain ⟨⟨k, a, b, c, d⟩, h5, h6⟩ := h
 exact ⟨⟨k, a, b, c, (hg.block g d.lt (Ne.symm h1)).trans d⟩, (hg.block q h5.lt (Ne.symm h2)).trans h5, h6⟩
theorem set {vt' vp' : Value} (h : Fill w g q s l r vt vp) (i : Nat) (v : Value) {cs : Array Value} (hc : (recCells r vt vp).setIfInBounds i v = cs) (hcs : cs = recCells r' vt' vp') : Fill (w.setCell ⟨q, i, none⟩ v) g q s l r' vt' vp' := by
 obtain ⟨k, h1, h2, h3, h4⟩ := h.rd
 refine ⟨⟨k, h1, h2, h3, h4.far (p := ⟨q, i, none⟩) (Ne.symm h.ne) v⟩, ?_, h.ne⟩
 rw [← hcs, ← hc]
 exact h.row.set i v
end Fill
theorem only2 {w w' : World} {g q : Nat} (h : Only (· = g) w w') : Only (Two g q) w w' := h.widen fun _ hb => .inl (.inl hb)
theorem only2set {w w' : World} {g q : Nat} (h : Only (Two g q) w w') (i : Nat) (v : Value) : Only (Two g q) w (w'.setCell ⟨q, i, none⟩ v) := h.set (p := ⟨q, i, none⟩) (.inl (.inr rfl)) v
def Filled (w : World) (g q : Nat) (s : ByteArray) (o : Option (Rc × List UInt8)) (vt vp : Value) (e : Ending) (w' : World) : Prop :=
 match o with
 | some (r, l) => e = .returned (.tuple #[]) ∧ Fill w' g q s l r vt vp ∧ Only (Two g q) w w'
 | none => e = .panicked gaveUp ∧ Only (Two g q) w w'
set_option maxRecDepth 100000 in
set_option maxHeartbeats 4000000 in
theorem change_any {w : World} {g q : Nat} {s : ByteArray} {l : List UInt8} {r : Rc} {vt vp : Value} (h : Fill w g q s l r vt vp) (o : Option (Rc × List UInt8)) (ho : o = changeP r l) :
   Calls Tryz.prog 132 #[.pointer (some ⟨g, 0, none⟩), .pointer (some ⟨q, 0, none⟩)] w (Filled w g q s o vt vp) := by
 unfold changeP at ho
 have HO := Lib.hid ho
 have H1 := Lib.hid (rdPage_any h.rd)
 have F0 := Lib.hid h
 clear ho h
 go_enter Tryz.func132, Tryz.ntmps132
 go_wp2_with fail
 refine H1.out.mono ?_
 intro e w1 ht
 rcases ht.int with ⟨hp, rfl, ho⟩ | ⟨pg, l1, hp, rfl, hr, ho⟩
 · rw [hp] at HO
   obtain rfl : o = none := HO.out
   have W := Lib.hid (only2 (q := q) ho)
   clear ho HO hp H1 F0 ht
   go_wp2
   exact ⟨rfl, rfl, W.out⟩
 have HO2 := HO.out
 rw [hp, Option.bind_some] at HO2
 dsimp only at HO2
 replace HO := Lib.hid HO2
 have f1 := F0.out.took hr ho
 have c2 := f1.row.cell 2
 have z2 := f1.row.frozen 2
 simp [recCells] at c2
 have F1 := Lib.hid (f1.set 2 (.int .i64 pg) rfl (r' := { r with page := pg }) rfl)
 have W1 := Lib.hid (only2set (only2 (q := q) ho) 2 (.int .i64 pg))
 clear f1 ho hr F0 hp H1 ht HO2
 go_wp2_with fail
 generalize w1.setCell ⟨q, 2, none⟩ (.int .i64 pg) = w2 at *
 clear c2 z2
 -- Off
 have H2 := Lib.hid (small_any F1.out.rd 0 219)
 refine H2.out.mono ?_
 intro e w3 ht
 rcases ht.int with ⟨hp, rfl, ho⟩ | ⟨of, l2, hp, rfl, hr, ho⟩
 · rw [hp] at HO
   obtain rfl : o = none := HO.out
   have W := Lib.hid (W1.out.trans (only2 (q := q) ho))
   clear ho HO hp H2 F1 ht
   go_wp2
   exact ⟨rfl, rfl, W.out⟩
 have HO2 := HO.out
 rw [hp, Option.bind_some] at HO2
 dsimp only at HO2
 replace HO := Lib.hid HO2
 obtain ⟨_, b1, b2, _, _⟩ := smallP_some hp
 have f1 := F1.out.took hr ho
 have c2 := f1.row.cell 3
 have z2 := f1.row.frozen 3
 simp [recCells] at c2
 have f2 := f1.set 3 (.int .i64 of) rfl (r' := { r with page := pg, off := of }) rfl
 have W2 := Lib.hid (W1.out.trans (only2set (only2 (q := q) ho) 3 (.int .i64 of)))
 clear f1 ho hr F1 hp H2 HO2 ht
 have c3 := f2.row.cell 3
 have F2 := Lib.hid f2
 simp [recCells] at c3
 clear f2
 go_wp2_with fail
 all_goals
   clear c2 z2
   generalize w3.setCell ⟨q, 3, none⟩ (.int .i64 of) = w4 at *
   first | rw [show min (16 : Int) (220 - of) = 220 - of from by omega] at HO | rw [show min (16 : Int) (220 - of) = 16 from by omega] at HO
   have H3 := Lib.hid (fun hi => small_any F2.out.rd 1 hi)
   refine (H3.out _).mono ?_
   intro e w5 ht
   rcases ht.int with ⟨hp, rfl, ho⟩ | ⟨n, l3, hp, rfl, hr, ho⟩
   · rw [hp] at HO
     obtain rfl : o = none := HO.out
     have W := Lib.hid (W2.out.trans (only2 (q := q) ho))
     clear ho HO hp H3 F2 ht
     go_wp2
     exact ⟨rfl, rfl, W.out⟩
   have HO2 := HO.out
   rw [hp, Option.bind_some] at HO2
   dsimp only at HO2
   obtain ⟨_, n1, n2, n3, n4⟩ := smallP_some hp
   obtain ⟨m, rfl⟩ := Int.eq_ofNat_of_zero_le n3
   rw [Int.toNat_natCast] at HO2
   replace HO := Lib.hid HO2
   have f1 := F2.out.took hr ho
   have W3 := Lib.hid (W2.out.trans (only2 (q := q) ho))
   have c0 := f1.row.cell 0
   simp [recCells] at c0
   have F3 := Lib.hid f1
   have H4 := Lib.hid (copied_any f1.rd m (by omega))
   clear f1 ho hr F2 hp H3 HO2 c3 ht
   by_cases hk : r.kind = 1
   · have hk' : (r.kind == 1) = true := by rw [hk]; rfl
     rw [if_pos hk] at HO
     have HK := Lib.hid hk
     clear hk
     go_wp2_with fail
     refine H4.out.mono ?_
     intro e w6 ht
     rcases ht.str with ⟨hp, rfl, ho⟩ | ⟨bf, l4, hp, rfl, hr, ho⟩
     · rw [hp] at HO
       obtain rfl : o = none := HO.out
       have W := Lib.hid (W3.out.trans (only2 (q := q) ho))
       clear ho HO hp H4 F3 ht
       go_wp2
       exact ⟨rfl, rfl, W.out⟩
     have HO2 := HO.out
     rw [hp, Option.bind_some] at HO2
     dsimp only at HO2
     replace HO := Lib.hid HO2
     have f1 := F3.out.took hr ho
     have c7 := f1.row.cell 7
     have z7 := f1.row.frozen 7
     simp [recCells] at c7
     have F4 := Lib.hid (f1.set 7 (.string bf) rfl (r' := { r with page := pg, off := of, before := bf }) rfl)
     have W4 := Lib.hid (only2set (W3.out.trans (only2 (q := q) ho)) 7 (.string bf))
     clear f1 ho hr F3 hp H4 ht HO2 c0
     go_wp2_with fail
     generalize w6.setCell ⟨q, 7, none⟩ (.string bf) = w7 at *
     clear c7 z7
     refine (copied_any F4.out.rd m (by omega)).mono ?_
     intro e w8 ht
     rcases ht.str with ⟨hp, rfl, ho⟩ | ⟨af, l5, hp, rfl, hr, ho⟩
     · rw [hp] at HO
       obtain rfl : o = none := HO.out
       have W := Lib.hid (W4.out.trans (only2 (q := q) ho))
       clear ho HO hp F4 ht
       go_wp2
       exact ⟨rfl, rfl, W.out⟩
     have HO2 := HO.out
     rw [hp, Option.map_some] at HO2
     dsimp only at HO2
     have f1 := F4.out.took hr ho
     have c8 := f1.row.cell 8
     have z8 := f1.row.frozen 8
     simp [recCells] at c8
     have F5 := Lib.hid (f1.set 8 (.string af) rfl (r' := { r with page := pg, off := of, before := bf, after := af }) rfl)
     have W5 := Lib.hid (only2set (W4.out.trans (only2 (q := q) ho)) 8 (.string af))
     subst HO2
     clear f1 ho hr F4 hp ht
     go_wp2
     go_end0
     exact ⟨rfl, F5.out, W5.out⟩
   · have hk' : (r.kind == 1) = false := by rw [beq_eq_false_iff_ne]; exact hk
     rw [if_neg hk] at HO
     have HK := Lib.hid hk
     clear hk
     go_wp2_with fail
     refine H4.out.mono ?_
     intro e w6 ht
     rcases ht.str with ⟨hp, rfl, ho⟩ | ⟨af, l4, hp, rfl, hr, ho⟩
     · rw [hp] at HO
       obtain rfl : o = none := HO.out
       have W := Lib.hid (W3.out.trans (only2 (q := q) ho))
       clear ho HO hp H4 F3 ht
       go_wp2
       exact ⟨rfl, rfl, W.out⟩
     have HO2 := HO.out
     rw [hp, Option.map_some] at HO2
     dsimp only at HO2
     have f1 := F3.out.took hr ho
     have c8 := f1.row.cell 8
     have z8 := f1.row.frozen 8
     simp [recCells] at c8
     have F4 := Lib.hid (f1.set 8 (.string af) rfl (r' := { r with page := pg, off := of, after := af }) rfl)
     have W4 := Lib.hid (only2set (W3.out.trans (only2 (q := q) ho)) 8 (.string af))
     subst HO2
     clear f1 ho hr F3 hp H4 ht
     go_wp2
     go_end0
     exact ⟨rfl, F4.out, W4.out⟩
end Go.Proofs.YtbplgbkbggmaeaaGreat

namespace Go.Proofs.YtbplgbkbggmaeaaGreat
open Go.RowKit
theorem info_txn : (Tryz.prog.info? 152).map (fun i => (i.zero, i.size, i.bytes)) = some (some (.agg #[.int .i64 0, .int .i64 0, .int .i64 0]), 3, 24) := by kernel_rfl
theorem info_page : (Tryz.prog.info? 92).map (fun i => (i.zero, i.size, i.bytes)) = some (some (.agg #[.int .i64 0, .int .i64 0]), 2, 16) := by kernel_rfl
theorem info_parts {e : TypeId} {z : Value} {a b : Nat} (h : (Tryz.prog.info? e).map (fun i => (i.zero, i.size, i.bytes)) = some (some z, a, b)) : ∃ i, Tryz.prog.info? e = some i ∧ i.zero = some z ∧ i.size = a ∧ i.bytes = b := by
 obtain ⟨i, hi, he⟩ := Option.map_eq_some_iff.1 h
 simp only [Prod.mk.injEq] at he
 exact ⟨i, hi, he.1, he.2.1, he.2.2⟩
theorem own_reader {w : World} {g base size n : Nat} {e : TypeId} {s : ByteArray} {l : List UInt8} {v : Value} {xs : List Value} (h : w.ownsRow base e size v n xs) (hr : Rd w g s l) (hne : e ≠ 174) : ∀ b, v.ownBlock = some b → ¬ b = g := by
 obtain ⟨k, _, _, _, h4⟩ := hr
 rintro b hv rfl
 exact own_blk h h4 hne hv
theorem pushed {w8 w9 : World} {g q base size n i : Nat} {e : TypeId} {s : ByteArray} {l : List UInt8} {r : Rc} {vt vp vt' vp' v v' : Value} {xs : List Value} (hf : Fill w8 g q s l r vt vp) (ho : w8.ownsRow base e size v n xs) {n' : Nat} {xs' : List Value}
   (hown : w9.ownsRow base e size v' n' xs') (hg : w8.grownBy w9 v.ownBlock) (h1 : e ≠ 174) (h2 : e ≠ 49) (hset : (recCells r vt vp).setIfInBounds i v' = recCells r vt' vp') :
   Fill (w9.setCell ⟨q, i, none⟩ v') g q s l r vt' vp' ∧ (w9.setCell ⟨q, i, none⟩ v').ownsRow base e size v' n' xs' := by
 have f9 := hf.grown hg (fun e => own_reader ho hf.rd h1 g e rfl) (own_blk ho hf.row h2)
 have hne := own_blk hown f9.row h2
 exact ⟨f9.set i v' hset rfl, own_keep hown fun b hb => heap_setCell_other w9 ⟨q, i, none⟩ b _ (fun e => hne (by rw [hb, e]))⟩
theorem pushedOnly {w w8 w9 : World} {g q base size n i : Nat} {e : TypeId} {v v' : Value} {xs : List Value} (hW : Only (Two g q) w w8) (ho : w8.ownsRow base e size v n xs) (hb : w.heap.size ≤ base) (hg : w8.grownBy w9 v.ownBlock) : Only (Two g q) w (w9.setCell ⟨q, i, none⟩ v') :=
 only2set (hW.grown hg fun b hv => .inr (Nat.le_trans hb (ho.lt b hv).1)) i v'
def FilledT (w : World) (g q : Nat) (s : ByteArray) (o : Option (Rc × List UInt8)) (e : Ending) (w' : World) : Prop :=
 match o with
 | some (r, l) => e = .returned (.tuple #[]) ∧ ∃ vt vp, Fill w' g q s l r vt vp ∧ Lists w' r vt vp ∧ Only (Two g q) w w' ∧ New w vt ∧ New w vp
 | none => e = .panicked gaveUp ∧ Only (Two g q) w w'
set_option maxRecDepth 100000 in
set_option maxHeartbeats 8000000 in
theorem tables_any {w : World} {g q : Nat} {s : ByteArray} {l : List UInt8} {r : Rc} (h : Fill w g q s l r (.slice none 0 0) (.slice none 0 0)) (o : Option (Rc × List UInt8)) (ho : o = tablesP r l) :
   Calls Tryz.prog 133 #[.pointer (some ⟨g, 0, none⟩), .pointer (some ⟨q, 0, none⟩)] w (FilledT w g q s o) := by
 unfold tablesP at ho
 have HO := Lib.hid ho
 have H1 := Lib.hid (rdnum0 h.rd)
 have F0 := Lib.hid h
 obtain ⟨i3, hi3, z31, z32, z33⟩ := info_parts info_txn
 obtain ⟨i2, hi2, z21, z22, z23⟩ := info_parts info_page
 have I3 := Lib.hid (show _ ∧ _ ∧ _ ∧ _ from ⟨hi3, z31, z32, z33⟩)
 have I2 := Lib.hid (show _ ∧ _ ∧ _ ∧ _ from ⟨hi2, z21, z22, z23⟩)
 clear ho h hi3 z31 z32 z33 hi2 z21 z22 z23
 go_enter Tryz.func133, Tryz.ntmps133
 go_wp2_with fail
 refine H1.out.mono ?_
 intro e w1 ht
 rcases ht.int with ⟨hp, rfl, ho⟩ | ⟨bg, l1, hp, rfl, hr, ho⟩
 · rw [hp] at HO
   obtain rfl : o = none := HO.out
   have W := Lib.hid (only2 (q := q) ho)
   clear ho HO hp H1 F0 ht
   go_wp2
   exact ⟨rfl, rfl, W.out⟩
 have HO2 := HO.out
 rw [hp, Option.bind_some] at HO2
 dsimp only at HO2
 replace HO := Lib.hid HO2
 have f1 := F0.out.took hr ho
 have c6 := f1.row.cell 6
 have z6 := f1.row.frozen 6
 simp [recCells] at c6
 have F1 := Lib.hid (f1.set 6 (.int .i64 bg) rfl (r' := { r with beg := bg }) rfl)
 have W1 := Lib.hid (only2set (only2 (q := q) ho) 6 (.int .i64 bg))
 clear f1 ho hr F0 hp H1 ht HO2
 go_wp2_with fail
 generalize w1.setCell ⟨q, 6, none⟩ (.int .i64 bg) = w2 at *
 clear c6 z6
 have H2 := Lib.hid (small_any F1.out.rd 0 4)
 refine H2.out.mono ?_
 intro e w3 ht
 rcases ht.int with ⟨hp, rfl, ho⟩ | ⟨n, l2, hp, rfl, hr, ho⟩
 · rw [hp] at HO
   obtain rfl : o = none := HO.out
   have W := Lib.hid (W1.out.trans (only2 (q := q) ho))
   clear ho HO hp H2 F1 ht
   go_wp2
   exact ⟨rfl, rfl, W.out⟩
 have HO2 := HO.out
 rw [hp, Option.bind_some] at HO2
 dsimp only at HO2
 obtain ⟨_, n1, n2, n3, n4⟩ := smallP_some hp
 obtain ⟨m, rfl⟩ := Int.eq_ofNat_of_zero_le n3
 rw [Int.toNat_natCast] at HO2
 replace HO := Lib.hid HO2
 have F2 := Lib.hid (F1.out.took hr ho)
 have W2 := Lib.hid (W1.out.trans (only2 (q := q) ho))
 clear ho hr F1 hp H2 HO2 ht n1 n3 n4
 go_wp2_with fail
 go_loopw [13] (fun vk wr => ∃ (k : Nat) (xs : List Row3) (lk : List UInt8) (vt : Value), k ≤ m ∧ vk = .int .i64 k ∧ xs.length = k ∧ Fill wr g q s lk { r with beg := bg } vt (.slice none 0 0) ∧ wr.ownsRow w.heap.size 152 3 vt k (rows3 xs) ∧ Only (Two g q) w wr ∧ Midst row3P m l2 xs lk) (fun vk _ => m - (intOf vk).toNat)
 case atStart => exact ⟨0, [], l2, _, Nat.zero_le _, rfl, rfl, F2.out, World.ownsRow_nil _ _ _ _, W2.out, Midst.start _ _ _⟩
 case round =>
   obtain ⟨k, xs, lk, vt, hk, rfl, hxl, hf, hown, ho, hmid⟩ := hrel
   clear F2 W2
   have F3 := Lib.hid hf
   have OW := Lib.hid hown
   have W3 := Lib.hid ho
   have MI := Lib.hid hmid
   have XL := Lib.hid hxl
   clear hf hown ho hmid hxl
   by_cases hlt : k < m
   · go_wp2_with fail
     refine (rdnum1 F3.out.rd).mono ?_
     intro e w4 ht
     rcases ht.int with ⟨hp, rfl, ho⟩ | ⟨a, l3, hp1, rfl, hr, ho⟩
     · have HO2 := HO.out
       rw [MI.out.none (by rw [XL.out]; exact hlt) (row3_none1 hp)] at HO2
       obtain rfl : o = none := HO2
       have W := Lib.hid (W3.out.trans (only2 (q := q) ho))
       clear ho HO hp F3 ht OW MI W3 XL
       go_wp2
       exact ⟨rfl, rfl, W.out⟩
     have F4 := Lib.hid (F3.out.took hr ho)
     have W4 := Lib.hid (W3.out.trans (only2 (q := q) ho))
     have OW4 := Lib.hid (own_only OW.out ho (own_reader OW.out F3.out.rd (by decide)))
     clear F3 W3 OW hr ho ht
     go_wp2_with fail
     refine (rdnum0 F4.out.rd).mono ?_
     intro e w5 ht
     rcases ht.int with ⟨hp, rfl, ho⟩ | ⟨b, l4, hp2, rfl, hr, ho⟩
     · have HO2 := HO.out
       rw [MI.out.none (by rw [XL.out]; exact hlt) (row3_none2 hp1 hp)] at HO2
       obtain rfl : o = none := HO2
       have W := Lib.hid (W4.out.trans (only2 (q := q) ho))
       clear ho HO hp F4 ht OW4 MI W4 XL hp1
       go_wp2
       exact ⟨rfl, rfl, W.out⟩
     have F5 := Lib.hid (F4.out.took hr ho)
     have W5 := Lib.hid (W4.out.trans (only2 (q := q) ho))
     have OW5 := Lib.hid (own_only OW4.out ho (own_reader OW4.out F4.out.rd (by decide)))
     clear F4 W4 OW4 hr ho ht
     go_wp2_with fail
     refine (rdnum0 F5.out.rd).mono ?_
     intro e w6 ht
     rcases ht.int with ⟨hp, rfl, ho⟩ | ⟨c, l5, hp3, rfl, hr, ho⟩
     · have HO2 := HO.out
       rw [MI.out.none (by rw [XL.out]; exact hlt) (row3_none3 hp1 hp2 hp)] at HO2
       obtain rfl : o = none := HO2
       have W := Lib.hid (W5.out.trans (only2 (q := q) ho))
       clear ho HO hp F5 ht OW5 MI W5 XL hp1 hp2
       go_wp2
       exact ⟨rfl, rfl, W.out⟩
     have F6 := Lib.hid (F5.out.took hr ho)
     have W6 := Lib.hid (W5.out.trans (only2 (q := q) ho))
     have OW6 := Lib.hid (own_only OW5.out ho (own_reader OW5.out F5.out.rd (by decide)))
     have MI2 := Lib.hid (MI.out.some (by rw [XL.out]; exact hlt) (row3_some hp1 hp2 hp3))
     clear F5 W5 OW5 hr ho ht hp1 hp2 hp3 MI
     go_wp2_with fail
     have hbw : Below w6.heap.size w6 (w6.alloc (.cells #[.int .i64 a, .int .i64 b, .int .i64 c] 152)) := (Below.refl _ _).alloc (Nat.le_refl _) _
     have B7 := Lib.hid (Blk.new w6 152 #[.int .i64 a, .int .i64 b, .int .i64 c])
     have F7 := Lib.hid (F6.out.more hbw)
     have W7 := Lib.hid (W6.out.more hbw)
     have OW7 := Lib.hid (own_below OW6.out hbw)
     have hsz : w.heap.size ≤ w6.heap.size := W6.out.size
     clear F6 W6 OW6 hbw
     change Code.wp _ _ _ _ (w6.alloc (.cells #[.int .i64 a, .int .i64 b, .int .i64 c] 152))
     generalize w6.heap.size = x at *
     generalize w6.alloc (.cells #[.int .i64 a, .int .i64 b, .int .i64 c] 152) = w7 at *
     obtain ⟨va, vc, hvs⟩ := own_slice OW7.out
     subst hvs
     obtain ⟨hi3, z31, z32, z33⟩ := id I3.out
     refine' wp_region_free [0] 7 [.is (.pointer (some ⟨q, 0, none⟩)), .is _, .is _, .is _, .is _, .is _, .slice w7.heap.size 1 152 #[.int .i64 a, .int .i64 b, .int .i64 c]] (by kernel_rfl) (by kernel_rfl) (by kernel_rfl) (by kernel_rfl) (by kernel_rfl) rfl ⟨rfl, trivial⟩ (fun _ _ _ _ _ h => h) ?main
     case main =>
       iterate 6
         refine obs_is (fun w8 hE2 _ => ?_) ?_
         · have f8 := F7.out.drew.more hE2
           have c9 := f8.row.cell 9
           simp [recCells] at c9
           have b8 := B7.out.drew.keep hE2 B7.out.lt
           clear f8
           go_wp2_with (refine wpList_load_row rfl 152 _ rfl x rfl 152 _ (0, 0) _ b8 Tryz.underlying152 rfl (by kernel_rfl) ?_)
           exact post_is (Below.refl _ _)
         simp only [Act.put, sA, sB, sC]
       refine obs_slice (fun w8 hE2 _ => ?_) (fun qq => ?_)
       · go_wp2
         exact ⟨_, rfl, ⟨w8.heap.size, hE2.size, rfl, Blk.new _ _ _⟩, (Below.refl _ _).alloc (Nat.le_refl _) _⟩
       simp only [Act.put, sA, sB, sC]
       refine obs_end fun w8 hE3 hkn => ?_
       obtain ⟨g2, _, rfl, hb2⟩ := hkn _ (List.mem_cons_self)
       have F8 := Lib.hid (F7.out.drew.more hE3)
       have W8 := Lib.hid (W7.out.drew.more hE3)
       have OW8 := Lib.hid (own_below OW7.out.drew hE3)
       have hown := OW8.out
       have lg := F8.out.row.lt
       have nq := own_blk hown F8.out.row (by decide)
       have c9 := F8.out.row.cell 9
       have z9 := F8.out.row.frozen 9
       simp [recCells] at c9
       clear hkn F7 W7 OW7 B7
       go_wp2_with (at_builtin; refine wpList_append_own_at _ rfl (.tmp 26) (.tmp 28) 46 rfl w.heap.size 152 i3 (.agg #[.int .i64 0, .int .i64 0, .int .i64 0]) 3 24 Tryz.underlying46 hi3 z31 z32 z33 rfl (by decide) _ _ _ rfl hown ⟨g2, 0, none⟩ 1 1 [.int .i64 a, .int .i64 b, .int .i64 c] rfl rfl (World.news_of_block hb2) (by simp [Value.oneCell']) (by simp only [maxLen]; omega) (by omega) W8.out.size ?_)
       intro v' w9 hown9 hgrow _ hat
       have z10 := (hgrow.frozen_far ⟨q, 9, none⟩ lg (Ne.symm nq)).trans z9
       have c10 := (hgrow.cell_far ⟨q, 9, none⟩ lg (Ne.symm nq)).trans c9
       have P9 := Lib.hid (pushed (i := 9) (vt' := v') (vp' := .slice none 0 0) F8.out OW8.out hown9 hgrow (by decide) (by decide) rfl)
       have W9 := Lib.hid (pushedOnly (i := 9) (v' := v') W8.out OW8.out (Nat.le_refl _) hgrow)
       obtain ⟨ga, ca, hv9⟩ := own_slice hown9
       subst hv9
       clear F8 W8 OW8 hown lg nq c9 z9 hown9 hgrow hat hb2
       go_wp2
       go_roundw
       case rel => exact ⟨k + 1, xs ++ [(a, b, c)], l5, _, by omega, by go_num, by rw [List.length_append, XL.out]; rfl, P9.out.1, by rw [rows3_snoc]; exact P9.out.2, W9.out, MI2.out⟩
       case measure => simp [intOf]; omega
   · obtain rfl : k = m := by omega
     have HO2 := HO.out
     rw [MI.out.done XL.out, Option.bind_some] at HO2
     dsimp only at HO2
     replace HO := Lib.hid HO2
     have T3 := Lib.hid OW.out
     clear OW MI HO2 W1
     go_wp2_with fail
     refine (small_any F3.out.rd 0 8).mono ?_
     intro e w4 ht
     rcases ht.int with ⟨hp, rfl, ho⟩ | ⟨n, l6, hp, rfl, hr, ho⟩
     · rw [hp] at HO
       obtain rfl : o = none := HO.out
       have W := Lib.hid (W3.out.trans (only2 (q := q) ho))
       clear ho HO hp F3 ht
       go_wp2
       exact ⟨rfl, rfl, W.out⟩
     have HO2 := HO.out
     rw [hp, Option.bind_some] at HO2
     dsimp only at HO2
     obtain ⟨_, n5, n6, n7, n8⟩ := smallP_some hp
     obtain ⟨m2, rfl⟩ := Int.eq_ofNat_of_zero_le n7
     rw [Int.toNat_natCast] at HO2
     replace HO := Lib.hid HO2
     have F4 := Lib.hid (F3.out.took hr ho)
     have W4 := Lib.hid (W3.out.trans (only2 (q := q) ho))
     have T4 := Lib.hid (own_only T3.out ho (own_reader T3.out F3.out.rd (by decide)))
     clear ho hr F3 W3 T3 hp HO2 ht n5 n7 n8 hlt hk I3 n2
     go_wp2_with fail
     go_loopw [35] (fun vk wr => ∃ (j : Nat) (ys : List Row2) (lj : List UInt8) (vp : Value), j ≤ m2 ∧ vk = .int .i64 j ∧ ys.length = j ∧ Fill wr g q s lj { r with beg := bg } vt vp ∧ wr.ownsRow w.heap.size 92 2 vp j (rows2 ys) ∧ Only (Two g q) w wr ∧ Midst row2P m2 l6 ys lj ∧ wr.ownsRow w.heap.size 152 3 vt k (rows3 xs)) (fun vk _ => m2 - (intOf vk).toNat)
     case atStart => exact ⟨0, [], l6, _, Nat.zero_le _, rfl, rfl, F4.out, World.ownsRow_nil _ _ _ _, W4.out, Midst.start _ _ _, T4.out⟩
     case round =>
       obtain ⟨j, ys, lj, vp, hj, rfl, hyl, hf, hown, ho, hmid, ht⟩ := hrel
       clear F4 W4 T4
       have F3 := Lib.hid hf
       have OW := Lib.hid hown
       have W3 := Lib.hid ho
       have MI := Lib.hid hmid
       have YL := Lib.hid hyl
       have T3 := Lib.hid ht
       clear hf hown ho hmid hyl ht
       by_cases hlt : j < m2
       · go_wp2_with fail
         refine (rdPage_any F3.out.rd).mono ?_
         intro e w4 ht
         rcases ht.int with ⟨hp, rfl, ho⟩ | ⟨a, l3, hp1, rfl, hr, ho⟩
         · have HO2 := HO.out
           rw [MI.out.none (by rw [YL.out]; exact hlt) (row2_none1 hp)] at HO2
           obtain rfl : o = none := HO2
           have W := Lib.hid (W3.out.trans (only2 (q := q) ho))
           clear ho HO hp F3 ht OW MI W3 YL T3
           go_wp2
           exact ⟨rfl, rfl, W.out⟩
         have F4 := Lib.hid (F3.out.took hr ho)
         have W4 := Lib.hid (W3.out.trans (only2 (q := q) ho))
         have OW4 := Lib.hid (own_only OW.out ho (own_reader OW.out F3.out.rd (by decide)))
         have T4 := Lib.hid (own_only T3.out ho (own_reader T3.out F3.out.rd (by decide)))
         clear F3 W3 OW hr ho ht T3
         go_wp2_with fail
         refine (rdnum0 F4.out.rd).mono ?_
         intro e w5 ht
         rcases ht.int with ⟨hp, rfl, ho⟩ | ⟨b, l5, hp2, rfl, hr, ho⟩
         · have HO2 := HO.out
           rw [MI.out.none (by rw [YL.out]; exact hlt) (row2_none2 hp1 hp)] at HO2
           obtain rfl : o = none := HO2
           have W := Lib.hid (W4.out.trans (only2 (q := q) ho))
           clear ho HO hp F4 ht OW4 MI W4 YL hp1 T4
           go_wp2
           exact ⟨rfl, rfl, W.out⟩
         have F6 := Lib.hid (F4.out.took hr ho)
         have W6 := Lib.hid (W4.out.trans (only2 (q := q) ho))
         have OW6 := Lib.hid (own_only OW4.out ho (own_reader OW4.out F4.out.rd (by decide)))
         have T6 := Lib.hid (own_only T4.out ho (own_reader T4.out F4.out.rd (by decide)))
         have MI2 := Lib.hid (MI.out.some (by rw [YL.out]; exact hlt) (row2_some hp1 hp2))
         clear F4 W4 OW4 hr ho ht hp1 hp2 MI T4
         go_wp2_with fail
         have hbw : Below w5.heap.size w5 (w5.alloc (.cells #[.int .i64 a, .int .i64 b] 92)) := (Below.refl _ _).alloc (Nat.le_refl _) _
         have B7 := Lib.hid (Blk.new w5 92 #[.int .i64 a, .int .i64 b])
         have F7 := Lib.hid (F6.out.more hbw)
         have W7 := Lib.hid (W6.out.more hbw)
         have OW7 := Lib.hid (own_below OW6.out hbw)
         have T7 := Lib.hid (own_below T6.out hbw)
         have hsz : w.heap.size ≤ w5.heap.size := W6.out.size
         clear F6 W6 OW6 hbw T6
         change Code.wp _ _ _ _ (w5.alloc (.cells #[.int .i64 a, .int .i64 b] 92))
         generalize w5.heap.size = x at *
         generalize w5.alloc (.cells #[.int .i64 a, .int .i64 b] 92) = w7 at *
         obtain ⟨va, vc, hvs⟩ := own_slice OW7.out
         subst hvs
         obtain ⟨hi3, z31, z32, z33⟩ := id I2.out
         refine' wp_region_free [0] 7 [.is (.pointer (some ⟨q, 0, none⟩)), .is _, .is _, .is _, .is _, .is _, .slice w7.heap.size 1 92 #[.int .i64 a, .int .i64 b]] (by kernel_rfl) (by kernel_rfl) (by kernel_rfl) (by kernel_rfl) (by kernel_rfl) rfl ⟨rfl, trivial⟩ (fun _ _ _ _ _ h => h) ?main
         case main =>
           iterate 6
             refine obs_is (fun w8 hE2 _ => ?_) ?_
             · have f8 := F7.out.drew.more hE2
               have c9 := f8.row.cell 10
               simp [recCells] at c9
               have b8 := B7.out.drew.keep hE2 B7.out.lt
               clear f8
               go_wp2_with (refine wpList_load_row rfl 92 _ rfl x rfl 92 _ (0, 0) _ b8 Tryz.underlying92 rfl (by kernel_rfl) ?_)
               exact post_is (Below.refl _ _)
             simp only [Act.put, sA, sB, sC]
           refine obs_slice (fun w8 hE2 _ => ?_) (fun qq => ?_)
           · go_wp2
             exact ⟨_, rfl, ⟨w8.heap.size, hE2.size, rfl, Blk.new _ _ _⟩, (Below.refl _ _).alloc (Nat.le_refl _) _⟩
           simp only [Act.put, sA, sB, sC]
           refine obs_end fun w8 hE3 hkn => ?_
           obtain ⟨g2, _, rfl, hb2⟩ := hkn _ (List.mem_cons_self)
           have F8 := Lib.hid (F7.out.drew.more hE3)
           have W8 := Lib.hid (W7.out.drew.more hE3)
           have OW8 := Lib.hid (own_below OW7.out.drew hE3)
           have T8 := Lib.hid (own_below T7.out.drew hE3)
           have hown := OW8.out
           have lg := F8.out.row.lt
           have nq := own_blk hown F8.out.row (by decide)
           have c9 := F8.out.row.cell 10
           have z9 := F8.out.row.frozen 10
           simp [recCells] at c9
           clear hkn F7 W7 OW7 B7 T7
           go_wp2_with (at_builtin; refine wpList_append_own_at _ rfl (.tmp 46) (.tmp 48) 47 rfl w.heap.size 92 i2 (.agg #[.int .i64 0, .int .i64 0]) 2 16 Tryz.underlying47 hi3 z31 z32 z33 rfl (by decide) _ _ _ rfl hown ⟨g2, 0, none⟩ 1 1 [.int .i64 a, .int .i64 b] rfl rfl (World.news_of_block hb2) (by simp [Value.oneCell']) (by simp only [maxLen]; omega) (by omega) W8.out.size ?_)
           intro v' w9 hown9 hgrow _ hat
           have z10 := (hgrow.frozen_far ⟨q, 10, none⟩ lg (Ne.symm nq)).trans z9
           have c10 := (hgrow.cell_far ⟨q, 10, none⟩ lg (Ne.symm nq)).trans c9
           have P9 := Lib.hid (pushed (i := 10) (vt' := vt) (vp' := v') F8.out OW8.out hown9 hgrow (by decide) (by decide) rfl)
           have W9 := Lib.hid (pushedOnly (i := 10) (v' := v') W8.out OW8.out (Nat.le_refl _) hgrow)
           have T9 := Lib.hid (own_keep (w' := w9.setCell ⟨q, 10, none⟩ v') T8.out fun b hb => (heap_setCell_other w9 ⟨q, 10, none⟩ b _ (fun e => own_blk T8.out F8.out.row (by decide) (by rw [hb, e]))).trans
             (hgrow.block b (T8.out.lt b hb).2 (fun e => own_apart T8.out OW8.out (by decide) hb e.symm)))
           obtain ⟨ga, ca, hv9⟩ := own_slice hown9
           subst hv9
           clear F8 W8 OW8 hown lg nq c9 z9 hown9 hgrow hat hb2 T8
           go_wp2
           go_roundw
           case rel => exact ⟨j + 1, ys ++ [(a, b)], l5, _, by omega, by go_num, by rw [List.length_append, YL.out]; rfl, P9.out.1, by rw [rows2_snoc]; exact P9.out.2, W9.out, MI2.out, T9.out⟩
           case measure => simp [intOf]; omega
       · obtain rfl : j = m2 := by omega
         have HO2 := HO.out
         rw [MI.out.done YL.out, Option.map_some] at HO2
         dsimp only at HO2
         subst HO2
         clear MI HO
         have G := Lib.hid (show Fill wr g q s lj { r with beg := bg, txns := xs, pages := ys } vt vp ∧ Lists wr { r with beg := bg, txns := xs, pages := ys } vt vp ∧ Only (Two g q) w wr ∧ New w vt ∧ New w vp from
           ⟨⟨F3.out.rd, F3.out.row, F3.out.ne⟩, ⟨by show Elems wr vt xs.length (rows3 xs); rw [XL.out]; exact Elems.ofOwn T3.out, by show Elems wr vp ys.length (rows2 ys); rw [YL.out]; exact Elems.ofOwn OW.out⟩, W3.out, New.own T3.out (Nat.le_refl _), New.own OW.out (Nat.le_refl _)⟩)
         clear F3 T3 OW W3
         go_wp2
         go_end0
         exact ⟨rfl, _, _, G.out⟩
end Go.Proofs.YtbplgbkbggmaeaaGreat
