/- Package disk: a new one. -/
import Derived.Test.YtbjpnkjddfpmpaaDiskG
import Derived.Test.YtbjpnkjddfpmpaaRepeat
namespace Go.Proofs.Ytbjpnkjddfpmpaa
open Go.RowKit

theorem strsV_rep (s : ByteArray) (n : Nat) : (filled s n n).toList = strsV (List.replicate n s) := by simp [filled, filledL, strsV]

set_option maxRecDepth 100000 in
set_option maxHeartbeats 1000000 in
theorem new_no (n : Int) (w : World) (h : n < 1 ∨ 512 < n) :
    Calls Try.prog 7 #[.int .i64 n] w fun e w' => e = .returned (.tuple #[.pointer none, .int .i64 1]) ∧ w = w' := by
  rcases h with h | h
  · have h1 : decide (n < 1) = true := by simpa using h
    go_enter Try.func7, Try.ntmps7
    go_wp2
    go_ret2
    exact ⟨rfl, rfl⟩
  · have h1 : decide (n < 1) = false := by simp; omega
    have h2 : decide (512 < n) = true := by simpa using h
    go_enter Try.func7, Try.ntmps7
    go_wp2
    go_ret2
    exact ⟨rfl, rfl⟩
/-- The blocks of a new disk. -/
theorem new_raw {w w1 : World} {s n : Nat} (hs : Blk w1 s 9 (filled zero128 n n)) (hB : Below w.heap.size w w1) (hge : w.heap.size ≤ s) (h1 : 0 < n) (hn : n ≤ 512) :
    IsDisk ((w1.alloc (.map #[] 0)).alloc (.cells (diskCells (.slice (some ⟨s, 0, none⟩) n n) (.slice none 0 0) w1.heap.size false false 0) 56)) (fun b => w.heap.size ≤ b ∧ b < w1.heap.size + 2) (w1.heap.size + 1) (Dk.new n) ∧
      Below w.heap.size w ((w1.alloc (.map #[] 0)).alloc (.cells (diskCells (.slice (some ⟨s, 0, none⟩) n n) (.slice none 0 0) w1.heap.size false false 0) 56)) := by
  have hsz := hB.size
  have e1 : (w1.alloc (.map #[] 0)).heap.size = w1.heap.size + 1 := by simp
  have hm : IsMap (w1.alloc (.map #[] 0)) w1.heap.size fun _ => none := IsMap.made w1
  have hg := Blk.new (w1.alloc (.map #[] 0)) 56 (diskCells (.slice (some ⟨s, 0, none⟩) n n) (.slice none 0 0) w1.heap.size false false 0)
  rw [e1] at hg
  have hso : w1.ownsRow 0 9 1 (.slice (some ⟨s, 0, none⟩) n n) n (strsV (List.replicate n zero128)) :=
    ⟨by simp [strsV], .inr ⟨s, n, filled zero128 n n, rfl, Nat.zero_le _, hs, Nat.le_refl _, by unfold maxLen; omega, by rw [filled_size _ (Nat.le_refl _)]; omega, by
      rw [strsV_rep]; exact List.take_of_length_le (by simp [strsV])⟩⟩
  refine ⟨⟨Dk.Ok.new h1 hn, _, _, w1.heap.size, ⟨hg, ?_, World.ownsRow_nil _ _ _ _, ?_, ⟨by omega, by omega⟩, ⟨hsz, by omega⟩, fun b hb => ?_, fun b hb => by simp [Value.ownBlock] at hb, fun b hb => by simp; omega⟩⟩, ((hB.alloc hsz _).alloc (by simp; omega) _)⟩
  · have := (hso.alloc (.map #[] 0)).alloc (.cells (diskCells (.slice (some ⟨s, 0, none⟩) n n) (.slice none 0 0) w1.heap.size false false 0) 56)
    simpa [Dk.new] using this
  · exact hm.keep (Below.heap_alloc _ _ _ (by simp))
  · simp only [Value.ownBlock, Option.some.injEq] at hb
    subst hb
    exact ⟨hge, by have := hs.lt; omega⟩
theorem pos1 (n : Nat) (h : 1 ≤ n) : decide ((n : Int) < 1) = false := by simp; omega
theorem le512 (n : Nat) (h : n ≤ 512) : decide ((512 : Int) < n) = false := by simp; omega

set_option maxRecDepth 100000 in
set_option maxHeartbeats 4000000 in
theorem new_ok (n : Nat) (w : World) (h1 : 1 ≤ n) (hn : n ≤ 512) :
    Calls Try.prog 7 #[.int .i64 n] w fun e w' => ∃ g F, e = .returned (.tuple #[.pointer (some ⟨g, 0, none⟩), .int .i64 0]) ∧ IsDisk w' F g (Dk.new n) ∧ (∀ b, F b → w.heap.size ≤ b) ∧ Below w.heap.size w w' := by
  have H1 := pos1 n h1
  have H2 := le512 n hn
  have HR := Lib.hid (fun x W (hx : World.cell? W ⟨x, 0, none⟩ = some (.string zero128)) => repeat_one zero128 x n W hx h1 hn)
  have HN := Lib.hid (fun (w1 : World) s (hs : Blk w1 s 9 (filled zero128 n n)) (hB : Below w.heap.size w w1) (hge : w.heap.size ≤ s) => new_raw hs hB hge h1 hn)
  have hmm := @run_makeMap Try.prog
  clear h1 hn
  go_enter Try.func7, Try.ntmps7
  go_wp2_with fail
  refine (zero_any _).mono ?_
  rintro e w1 ⟨rfl, hb1⟩
  go_wp2_with fail
  have hx := (Blk.new w1 9 #[.string zero128]).cell 0
  refine (HR.out _ _ hx).mono ?_
  rintro e w2 ⟨s, rfl, hs, hge, hb2⟩
  have hB : Below w.heap.size w w2 := below2 (hb1.alloc hb1.size _) hb2
  have hge2 : w.heap.size ≤ s := Nat.le_trans (Nat.le_trans hb1.size (by simp)) hge
  obtain ⟨hd, hbf⟩ := HN.out _ _ hs hB hge2
  have HD := Lib.hid hd
  have HB := Lib.hid hbf
  clear hd hbf hx hs hge hB hb1 hb2
  go_wp2
  go_ret2
  exact ⟨_, _, rfl, HD.out, fun b hb => hb.1, HB.out⟩
end Go.Proofs.Ytbjpnkjddfpmpaa
