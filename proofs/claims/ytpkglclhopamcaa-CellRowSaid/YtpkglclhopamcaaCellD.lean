/- Package cell: floats as bytes, and bytes as floats; the document's own likewise. -/
import Derived.Test.YtpkglclhopamcaaCellC
import Derived.Test.YtpkglclhopamcaaBytes
namespace Go.Proofs.Ytpkglclhopamcaa
open Go.RowKit

/-- Eight bytes, the highest first. -/
def be8 (n : Nat) : List UInt8 := [UInt8.ofNat (n / 72057594037927936), UInt8.ofNat (n / 281474976710656), UInt8.ofNat (n / 1099511627776), UInt8.ofNat (n / 4294967296), UInt8.ofNat (n / 16777216), UInt8.ofNat (n / 65536), UInt8.ofNat (n / 256), UInt8.ofNat n]
def cellOf (n : Nat) : ByteArray := ⟨(be8 n).toArray⟩

set_option maxRecDepth 100000 in
set_option maxHeartbeats 1000000 in
theorem bytes_aux (x n : Nat) (hn : Flt.canon x = n) (w : World) :
    Calls Try.prog 13 #[.float .f64 x] w fun e w' => e = .returned (.string (cellOf n)) ∧ Below w.heap.size w w' := by
  have hN := Lib.hid hn
  clear hn
  go_enter Try.func13, Try.ntmps13
  go_wp2_with (go_at_call 28; refine (canonical_any _ _).mono ?_; rintro e w1 ⟨rfl, rfl⟩; rw [hN.out])
  have hb : Blk (w.alloc (.cells (bytesV (List.replicate 8 0)) 47)) w.heap.size 47 (bytesV (List.replicate 8 0)) := Blk.new _ _ _
  have hB : Below w.heap.size w (w.alloc (.cells (bytesV (List.replicate 8 0)) 47)) := (Below.refl _ _).alloc (Nat.le_refl _) _
  change Code.wp _ _ _ _ (w.alloc (.cells (bytesV (List.replicate 8 0)) 47))
  have hg : w.heap.size ≤ w.heap.size := Nat.le_refl _
  generalize w.alloc (.cells (bytesV (List.replicate 8 0)) 47) = w1 at *
  generalize hgg : w.heap.size = g at hb ⊢
  have hG := Lib.hid hgg
  clear hgg
  have cell : ∀ (w : World) (l : List UInt8) (i : Nat), Blk w g 47 (bytesV l) → i < l.length → ∃ v, w.cell? ⟨g, i, none⟩ = some v := fun w l i hb hi => ⟨_, hb.cellAt (by rw [bytesV_size]; exact hi)⟩
  refine wp_loop_rounds 9 ?_
  rw [rounds_succ]
  obtain ⟨v0, c0⟩ := cell _ _ 0 hb (by (try simp only [List.length_set]); decide)
  have f0 := hb.frozen 0
  have hb0 := hb.setB 0 (n / 72057594037927936) ((n : Int) / 72057594037927936 % 256) (by omega)
  go_wp2
  rw [rounds_succ]
  obtain ⟨v1, c1⟩ := cell _ _ 1 hb0 (by (try simp only [List.length_set]); decide)
  have f1 := hb0.frozen 1
  have hb1 := hb0.setB 1 (n / 281474976710656) ((n : Int) / 281474976710656 % 256) (by omega)
  go_wp2
  rw [rounds_succ]
  obtain ⟨v2, c2⟩ := cell _ _ 2 hb1 (by (try simp only [List.length_set]); decide)
  have f2 := hb1.frozen 2
  have hb2 := hb1.setB 2 (n / 1099511627776) ((n : Int) / 1099511627776 % 256) (by omega)
  go_wp2
  rw [rounds_succ]
  obtain ⟨v3, c3⟩ := cell _ _ 3 hb2 (by (try simp only [List.length_set]); decide)
  have f3 := hb2.frozen 3
  have hb3 := hb2.setB 3 (n / 4294967296) ((n : Int) / 4294967296 % 256) (by omega)
  go_wp2
  rw [rounds_succ]
  obtain ⟨v4, c4⟩ := cell _ _ 4 hb3 (by (try simp only [List.length_set]); decide)
  have f4 := hb3.frozen 4
  have hb4 := hb3.setB 4 (n / 16777216) ((n : Int) / 16777216 % 256) (by omega)
  go_wp2
  rw [rounds_succ]
  obtain ⟨v5, c5⟩ := cell _ _ 5 hb4 (by (try simp only [List.length_set]); decide)
  have f5 := hb4.frozen 5
  have hb5 := hb4.setB 5 (n / 65536) ((n : Int) / 65536 % 256) (by omega)
  go_wp2
  rw [rounds_succ]
  obtain ⟨v6, c6⟩ := cell _ _ 6 hb5 (by (try simp only [List.length_set]); decide)
  have f6 := hb5.frozen 6
  have hb6 := hb5.setB 6 (n / 256) ((n : Int) / 256 % 256) (by omega)
  go_wp2
  rw [rounds_succ]
  obtain ⟨v7, c7⟩ := cell _ _ 7 hb6 (by (try simp only [List.length_set]); decide)
  have f7 := hb6.frozen 7
  have hb7 := hb6.setB 7 (n) ((n : Int) % 256) (by omega)
  go_wp2
  rw [rounds_succ]
  have hc := conv_blk hb7 0 8 8 (by simp) 48 5 9 Try.underlying48 Try.underlying5 Try.underlying9
  go_wp2
  go_ret
  refine ⟨rfl, ?_⟩
  have key : ∀ {W : World} (i : Nat) (v : Value), Below w.heap.size w W → Below w.heap.size w (W.setCell ⟨g, i, none⟩ v) := fun i v h => h.setCell (by rw [hG.out]; exact Nat.le_refl _) v
  exact key _ _ (key _ _ (key _ _ (key _ _ (key _ _ (key _ _ (key _ _ (key _ _ hB)))))))

theorem bytes_any (x : Nat) (w : World) :
    Calls Try.prog 13 #[.float .f64 x] w fun e w' => e = .returned (.string (cellOf (Flt.canon x))) ∧ Below w.heap.size w w' := bytes_aux x _ rfl w

theorem info_byte : (Try.prog.info? 5).map (fun i => (i.zero, i.size, i.bytes)) = some (some (.int .u8 0), 1, 1) := by kernel_rfl
theorem be8_len (n : Nat) : (be8 n).length = 8 := rfl
/-- The byte at 56 - 8 k. -/
theorem be8_at (n k : Nat) (h : k < 8) : (be8 n)[k]? = some (UInt8.ofNat (n / 2 ^ (56 - 8 * k))) := by
  match k, h with
  | 0, _ => rfl
  | 1, _ => rfl
  | 2, _ => rfl
  | 3, _ => rfl
  | 4, _ => rfl
  | 5, _ => rfl
  | 6, _ => rfl
  | 7, _ => simp [be8]
/-- The first bytes of a number, as cells. -/
def firstV (n k : Nat) : List Value := (bytesV ((be8 n).take k)).toList
theorem firstV_succ (n k : Nat) (h : k < 8) : firstV n (k + 1) = firstV n k ++ [.int .u8 (UInt8.ofNat (n / 2 ^ (56 - 8 * k))).toNat] := by
  unfold firstV bytesV
  rw [List.take_add_one, be8_at n k h]
  simp

theorem firstV_next (n k : Nat) (V : Int) (h : k < 8) (hV : V = ((UInt8.ofNat (n / 2 ^ (56 - 8 * k))).toNat : Int)) : firstV n k ++ [.int .u8 V] = firstV n (k + 1) := by
  rw [firstV_succ n k h, hV]
/-- A byte that was laid alone, to be appended. -/
theorem byte_news (w : World) (v : Int) : ∀ (j : Nat) (u : Value), [Value.int .u8 v][j]? = some u → (w.alloc (.cells #[.int .u8 v] 5)).cell? ((⟨w.heap.size, 0, none⟩ : Addr).add j) = some u := by
  intro j u hj
  match j, hj with
  | 0, hj =>
    simp at hj
    subst hj
    exact (Blk.new w 5 #[.int .u8 v]).cellAt (i := 0) (by simp)
theorem byte_one (v : Int) : ∀ u ∈ [Value.int .u8 v], u.oneCell' = true := by
  intro u hu; simp at hu; subst hu; rfl

set_option maxRecDepth 100000 in
set_option maxHeartbeats 1000000 in
theorem refBytes_aux (x n : Nat) (hn : Flt.canon x = n) (w : World) :
    Calls Try.prog 14 #[.float .f64 x] w fun e w' => e = .returned (.string (cellOf n)) ∧ Below w.heap.size w w' := by
  have hN := Lib.hid hn
  clear hn
  obtain ⟨i0, hi, hz0, hz1, hz2⟩ := info_parts info_byte
  go_enter Try.func14, Try.ntmps14
  go_wp2_with (go_at_call 15; refine (refBits_any _ _).mono ?_; rintro e w1 ⟨rfl, rfl⟩; rw [hN.out])
  go_loopw [4, 5] (fun v i wr => ∃ k : Nat, k ≤ 8 ∧ i = .int .i64 (56 - 8 * (k : Int)) ∧ wr.ownsRow w.heap.size 5 1 v k (firstV n k) ∧ Below w.heap.size w wr) (fun _ i _ => (8 + intOf i).toNat)
  case atStart =>
    refine ⟨0, by omega, by simp, ⟨by simp [firstV, bytesV], .inr ⟨w.heap.size, 0, #[], rfl, Nat.le_refl _, heap_alloc_new w _, Nat.le_refl _, by decide, rfl, by simp [firstV, bytesV]⟩⟩, (Below.refl _ _).alloc (Nat.le_refl _) _⟩
  case round =>
    obtain ⟨k, hk, rfl, hown, hB⟩ := hrel
    by_cases h8 : k < 8
    · have hsz := hB.size
      rcases (show k = 0 ∨ k = 1 ∨ k = 2 ∨ k = 3 ∨ k = 4 ∨ k = 5 ∨ k = 6 ∨ k = 7 by omega) with rfl | rfl | rfl | rfl | rfl | rfl | rfl | rfl
      all_goals
        go_wp2_with (at_builtin; refine wpList_append_own _ rfl (.tmp 13) (.tmp 18) 48 rfl w.heap.size 5 i0 (.int .u8 0) 1 1 Try.underlying48 hi hz0 hz1 hz2 rfl (by decide) _ _ _ rfl (hown.alloc _) ⟨wr.heap.size, 0, none⟩ 1 1 [_] rfl rfl (byte_news _ _) (byte_one _) (by decide) (by decide) (by simp; omega) ?_)
        intro v' w1 hown' hgrow _
        rw [firstV_next] at hown'
        rotate_left
        · decide
        · simp
        have hb' : Below w.heap.size w w1 := (hB.alloc hB.size _).grown hgrow (by simp; omega) (fun k hk => (hown.lt k hk).1)
        clear hown hB hgrow
        go_wp2
        go_roundw
        case rel => exact ⟨_, by decide, by simp, hown', hb'⟩
        case measure => simp [intOf]
    · obtain rfl : k = 8 := by omega
      rcases hown.2 with ⟨_, h0⟩ | ⟨g, cap, cur, rfl, hg, hblk, hcap, hm, hcs, htake⟩
      · omega
      · have hc : (convert 48 9 (.slice (some ⟨g, 0, none⟩) 8 cap)).run Try.prog wr = .ok (.string (cellOf n)) wr :=
          conv_owned (be8 n) (by unfold firstV at hown; rwa [List.take_of_length_le (by rw [be8_len]; omega)] at hown) _ _ Try.underlying48 Try.underlying5 Try.underlying9
        clear hown hblk htake hcs
        go_wp2
        go_ret
        exact ⟨rfl, hB⟩

theorem refBytes_any (x : Nat) (w : World) :
    Calls Try.prog 14 #[.float .f64 x] w fun e w' => e = .returned (.string (cellOf (Flt.canon x))) ∧ Below w.heap.size w w' := refBytes_aux x _ rfl w
end Go.Proofs.Ytpkglclhopamcaa
