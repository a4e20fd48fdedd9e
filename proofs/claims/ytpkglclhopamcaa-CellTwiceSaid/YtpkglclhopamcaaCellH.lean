/- Package cell: a cell is read as it was written; the answers that the document fixes. -/
import Derived.Test.YtpkglclhopamcaaCellG
namespace Go.Proofs.Ytpkglclhopamcaa
open Go.RowKit

theorem cellOf_size (n : Nat) : (cellOf n).size = 8 := rfl
theorem num8_cellOf (n : Nat) (h : n < 2 ^ 64) : num8 (cellOf n) = n := by
  unfold num8 numTo cellOf be8
  simp
  omega
theorem ofNat_mod (a b : Nat) (h : a % 256 = b % 256) : UInt8.ofNat a = UInt8.ofNat b := by
  apply UInt8.toNat_inj.1
  simpa using h
theorem be8_num (a b c d e f g h : UInt8) : be8 (((((((a.toNat * 256 + b.toNat) * 256 + c.toNat) * 256 + d.toNat) * 256 + e.toNat) * 256 + f.toNat) * 256 + g.toNat) * 256 + h.toNat) = [a, b, c, d, e, f, g, h] := by
  have ha := a.toNat_lt
  have hb := b.toNat_lt
  have hc := c.toNat_lt
  have hd := d.toNat_lt
  have he := e.toNat_lt
  have hf := f.toNat_lt
  have hg := g.toNat_lt
  have hh := h.toNat_lt
  have key : ∀ (x : Nat) (u : UInt8), x % 256 = u.toNat → UInt8.ofNat x = u := fun x u e => by
    apply UInt8.toNat_inj.1
    simpa using e
  unfold be8
  rw [key _ a (by omega), key _ b (by omega), key _ c (by omega), key _ d (by omega), key _ e (by omega), key _ f (by omega), key _ g (by omega), key _ h (by omega)]
theorem cellOf_num8 (s : ByteArray) (h : s.size = 8) : cellOf (num8 s) = s := by
  apply str_ext
  unfold num8 numTo
  have hl : s.data.toList.length = 8 := h
  generalize s.data.toList = l at hl
  match l, hl with
  | [a, b, c, d, e, f, g, h], _ =>
    have := be8_num a b c d e f g h
    simpa [cellOf] using this

theorem copysign_any (w : World) : Calls Try.prog 27 #[.float .f64 0, .float .f64 13830554455654793216] w fun e w' => e = .returned (.float .f64 9223372036854775808) ∧ w = w' := by
  have h1 : bits .andNot .u64 0 9223372036854775808 = 0 := by decide +kernel
  have h2 : bits .and .u64 13830554455654793216 9223372036854775808 = 9223372036854775808 := by decide +kernel
  have h3 : bits .or .u64 0 9223372036854775808 = 9223372036854775808 := by decide +kernel
  go_enter Try.func27, Try.ntmps27
  go_wp2
  go_ret
  exact ⟨rfl, rfl⟩

/-- A contract whose texts are these very bytes. -/
theorem bytes_lit (x : Nat) (b : ByteArray) (h : cellOf (Flt.canon x) = b) (w : World) :
    Calls Try.prog 13 #[.float .f64 x] w fun e w' => e = .returned (.string b) ∧ Below w.heap.size w w' := by rw [← h]; exact bytes_any x w
theorem add_lit (s : ByteArray) (y : Nat) (b : ByteArray) (hs : s.size = 8) (h : cellOf (Flt.addC (num8 s) y) = b) (w : World) :
    Calls Try.prog 18 #[.string s, .float .f64 y] w fun e w' => e = .returned (.tuple #[.string b, .int .i64 0]) ∧ Below w.heap.size w w' := by rw [← h]; exact add_any s y w hs

theorem order_lit (x y : Nat) (o : Int) (hx : x < 2 ^ 64) (hy : y < 2 ^ 64) (h : Flt.ord x y = o) (w : World) :
    Calls Try.prog 19 #[.float .f64 x, .float .f64 y] w fun e w' => e = .returned (.int .i64 o) ∧ w = w' := by rw [← h]; exact order_any x y hx hy w
theorem sum_lit {v : Value} {xs : List Nat} (w : World) (hr : Reads w v (floatsV xs)) (r : Nat) (hm : xs.length ≤ 1000000) (h : sumF xs = r) :
    Calls Try.prog 23 #[v] w fun e w' => e = .returned (.float .f64 r) ∧ Below w.heap.size w w' := by rw [← h]; exact sum_any v xs w hr hm
def awakeL : List Nat := [4845873199050653696, 4607182418800017408, 4607182418800017408]
theorem floats_new (w : World) (xs : List Nat) : Reads (w.alloc (.cells (floatsV xs).toArray 22)) (.slice (some ⟨w.heap.size, 0, none⟩) (floatsV xs).length (floatsV xs).length) (floatsV xs) :=
  Reads.mk' (Nat.le_refl _) fun j x hj => by
    rw [(Blk.new w 22 _).cell]
    simpa using hj

set_option maxRecDepth 100000 in
set_option maxHeartbeats 4000000 in
theorem awake_any (w : World) : Calls Try.prog 11 #[] w fun e w' => e = .returned (.bool true) ∧ Below w.heap.size w w' := by
  go_enter Try.func11, Try.ntmps11
  go_wp2_with fail
  refine (copysign_any _).mono ?_
  rintro e w1 ⟨rfl, rfl⟩
  go_wp2_with fail
  refine (bytes_lit 9223372036854775808 ⟨#[128, 0, 0, 0, 0, 0, 0, 0]⟩ (by decide +kernel) _).mono ?_
  rintro e w1 ⟨rfl, hb1⟩
  go_wp2_with fail
  refine (add_lit _ 0 ⟨#[0, 0, 0, 0, 0, 0, 0, 0]⟩ rfl (by decide +kernel) _).mono ?_
  rintro e w2 ⟨rfl, hb2⟩
  go_wp2_with fail
  refine (inf_any _ _).mono ?_
  rintro e w3 ⟨rfl, rfl⟩
  go_wp2_with fail
  refine (bytes_lit 9218868437227405312 ⟨#[127, 240, 0, 0, 0, 0, 0, 0]⟩ (by decide +kernel) _).mono ?_
  rintro e w3 ⟨rfl, hb3⟩
  go_wp2_with fail
  refine (inf_any _ _).mono ?_
  rintro e w4 ⟨rfl, rfl⟩
  go_wp2_with fail
  refine (add_lit _ 18442240474082181120 ⟨#[127, 248, 0, 0, 0, 0, 0, 0]⟩ rfl (by decide +kernel) _).mono ?_
  rintro e w4 ⟨rfl, hb4⟩
  go_wp2_with fail
  refine (float_no _ _ (by decide)).mono ?_
  rintro e w5 ⟨rfl, rfl⟩
  go_wp2_with fail
  refine (bytes_lit 4607182418800017408 ⟨#[63, 240, 0, 0, 0, 0, 0, 0]⟩ (by decide +kernel) _).mono ?_
  rintro e w5 ⟨rfl, hb5⟩
  go_wp2_with fail
  refine (bytes_lit 0 ⟨#[0, 0, 0, 0, 0, 0, 0, 0]⟩ (by decide +kernel) _).mono ?_
  rintro e w6 ⟨rfl, hb6⟩
  go_wp2_with fail
  refine (order_lit 9223372036854775808 0 (-1) (by decide) (by decide) (by decide +kernel) _).mono ?_
  rintro e w7 ⟨rfl, rfl⟩
  go_wp2_with fail
  refine (sum_lit _ (floats_new w6 awakeL) 4845873199050653696 (by decide) (by decide +kernel)).mono ?_
  rintro e w7 ⟨rfl, hb7⟩
  have hq : (FloatKind.f64.format.order 4845873199050653696 4845873199050653696 == some .eq) = true := by decide +kernel
  go_wp2
  go_ret
  refine ⟨rfl, ?_⟩
  have h6 := below2 (below2 (below2 (below2 (below2 hb1 hb2) hb3) hb4) hb5) hb6
  exact (h6.alloc h6.size _).trans (hb7.mono (by have := h6.size; simp; omega))
end Go.Proofs.Ytpkglclhopamcaa
