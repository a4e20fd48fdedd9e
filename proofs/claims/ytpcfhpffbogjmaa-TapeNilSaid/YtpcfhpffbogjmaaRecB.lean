/- Package record: the reader's numbers. -/
import Derived.Test.YtpcfhpffbogjmaaRecA
import Derived.Lib.ConvBytes
namespace Go.Proofs.Ytpcfhpffbogjmaa
open Go.RowKit

set_option maxRecDepth 100000 in
set_option maxHeartbeats 2000000 in
theorem number_no {w : World} {g : Nat} {s : ByteArray} {l : List UInt8} (h : Rd w g s l) (lo : Nat) (hl : l.length < 4) :
    Calls Try.prog 76 #[.pointer (some ⟨g, 0, none⟩), .int .u32 lo] w (Took w g s none) := by
  have H1 := Lib.hid (take_no h 4 hl (by omega))
  clear h
  go_enter Try.func76, Try.ntmps76
  go_wp2_with fail
  refine H1.out.mono ?_
  rintro e w1 ⟨rfl, ho⟩
  have HO := Lib.hid ho
  clear ho
  go_wp2
  exact ⟨rfl, rfl, HO.out⟩

theorem bytesWorld_below (w : World) (e : TypeId) (s : ByteArray) : Below w.heap.size w (Lib.bytesWorld w e s) :=
  ⟨rfl, rfl, rfl, by rw [Lib.bytesWorld_size]; omega, fun b hb => Lib.bytesWorld_at_old w e s b hb⟩

set_option maxRecDepth 100000 in
set_option maxHeartbeats 2000000 in
theorem number_four {w : World} {g : Nat} {s : ByteArray} {a b c d : UInt8} {l : List UInt8} (h : Rd w g s (a :: b :: c :: d :: l)) (lo : Nat) (o : Option (Value × List UInt8))
    (hy : o = if lo ≤ val4 a b c d ∧ val4 a b c d ≤ 2147483647 then some (.int .i64 (val4 a b c d), l) else none) :
    Calls Try.prog 76 #[.pointer (some ⟨g, 0, none⟩), .int .u32 lo] w (Took w g s o) := by
  have H1 := Lib.hid (take_ok h 4 (by simp) (by omega))
  clear h
  have HY := Lib.hid hy
  clear hy
  have ba : (a.toNat : Int) < 256 := by have := a.toNat_lt; omega
  have bb : (b.toNat : Int) < 256 := by have := b.toNat_lt; omega
  have bc : (c.toNat : Int) < 256 := by have := c.toNat_lt; omega
  have bd : (d.toNat : Int) < 256 := by have := d.toNat_lt; omega
  have hor : bits .or .u32 (bits .or .u32 (bits .or .u32 (bits .or .u32 0 (a.toNat : Int) * 256 % 4294967296) (b.toNat : Int) * 256 % 4294967296) (c.toNat : Int) * 256 % 4294967296) (d.toNat : Int) = ((val4 a b c d : Nat) : Int) :=
    or_be _ _ _ _ (by omega) (by omega) (by omega) (by omega)
  have hv : val4 a b c d < 4294967296 := by unfold val4; omega
  generalize val4 a b c d = n at *
  have hn0 : (0 : Int) ≤ n := Int.natCast_nonneg _
  have hwr : wrap64 (n : Int) = n := by unfold wrap64; omega
  go_enter Try.func76, Try.ntmps76
  go_wp2_with fail
  refine H1.out.mono ?_
  rintro e w1 ⟨rfl, hr, ho⟩
  have HO := Lib.hid ho
  have HR := Lib.hid hr
  clear ho hr
  have hcv := Lib.run_convert_string_bytes (P := Try.prog) w1 9 51 5 ⟨#[a, b, c, d]⟩ Try.underlying9 Try.underlying51 Try.underlying5
  have hcell := fun j hj => Lib.bytesWorld_cell w1 5 ⟨#[a, b, c, d]⟩ j hj
  have c0 := hcell 0 (by simp [ByteArray.size])
  have c1 := hcell 1 (by simp [ByteArray.size])
  have c2 := hcell 2 (by simp [ByteArray.size])
  have c3 := hcell 3 (by simp [ByteArray.size])
  simp at c0 c1 c2 c3
  have hbw := bytesWorld_below w1 5 ⟨#[a, b, c, d]⟩
  generalize Lib.bytesWorld w1 5 ⟨#[a, b, c, d]⟩ = w2 at *
  generalize grownCap w1 (⟨#[a, b, c, d]⟩ : ByteArray).size 0 5 = cap at *
  rw [show (⟨#[a, b, c, d]⟩ : ByteArray).size = 4 from rfl] at hcv
  have hw : Only (· = g) w w2 ∧ Rd w2 g s l := by
    obtain ⟨k, h1, h2, h3, h4⟩ := HR.out
    exact ⟨HO.out.more hbw, k, h1, h2, h3, h4.keep hbw h4.lt⟩
  have HW := Lib.hid hw
  clear hbw hcell HO HR hw
  by_cases hin : lo ≤ n ∧ n ≤ 2147483647
  · obtain rfl : o = some (.int .i64 n, l) := by rw [HY.out, if_pos hin]
    obtain ⟨h1, h2⟩ := hin
    clear HY
    go_wp2_with fail
    refine wp_loop_rounds 5 ?_
    iterate 4
      rw [rounds_succ]
      go_wp2
    rw [rounds_succ]
    go_wp2_with fail
    refine (need_yes (by first | rfl | omega | (simp; omega)) _).mono ?_
    rintro e w3 ⟨rfl, rfl⟩
    go_wp2_with fail
    go_ret
    exact ⟨rfl, HW.out.2, HW.out.1⟩
  · obtain rfl : o = none := by rw [HY.out, if_neg hin]
    clear HY
    go_wp2_with fail
    refine wp_loop_rounds 5 ?_
    iterate 4
      rw [rounds_succ]
      go_wp2
    rw [rounds_succ]
    go_wp2_with fail
    all_goals
      refine (need_no (by first | rfl | omega | (simp; omega)) _).mono ?_
      rintro e w3 ⟨rfl, rfl⟩
      go_wp2_with fail
      exact ⟨rfl, rfl, HW.out.1⟩

theorem rdnum_any {w : World} {g : Nat} {s : ByteArray} {l : List UInt8} (h : Rd w g s l) (lo : Nat) :
    Calls Try.prog 76 #[.pointer (some ⟨g, 0, none⟩), .int .u32 lo] w (Took w g s ((numP lo l).map fun x => (.int .i64 x.1, x.2))) := by
  match l, h with
  | [], h => exact number_no h lo (by simp)
  | [_], h => exact number_no h lo (by simp)
  | [_, _], h => exact number_no h lo (by simp)
  | [_, _, _], h => exact number_no h lo (by simp)
  | a :: b :: c :: d :: l, h =>
    refine number_four h lo _ ?_
    show Option.map _ (if _ then _ else _) = _
    by_cases hin : lo ≤ val4 a b c d ∧ val4 a b c d ≤ 2147483647
    · rw [if_pos hin, if_pos (by omega)]
      rfl
    · rw [if_neg hin, if_neg (by omega)]
      rfl
theorem rdnum1 {w : World} {g : Nat} {s : ByteArray} {l : List UInt8} (h : Rd w g s l) :
    Calls Try.prog 76 #[.pointer (some ⟨g, 0, none⟩), .int .u32 1] w (Took w g s ((numP 1 l).map fun x => (.int .i64 x.1, x.2))) := rdnum_any h 1
theorem rdnum0 {w : World} {g : Nat} {s : ByteArray} {l : List UInt8} (h : Rd w g s l) :
    Calls Try.prog 76 #[.pointer (some ⟨g, 0, none⟩), .int .u32 0] w (Took w g s ((numP 0 l).map fun x => (.int .i64 x.1, x.2))) := rdnum_any h 0
end Go.Proofs.Ytpcfhpffbogjmaa
