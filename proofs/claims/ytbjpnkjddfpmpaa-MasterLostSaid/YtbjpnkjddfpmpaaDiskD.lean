/- Package disk: a sector is read. -/
import Derived.Test.YtbjpnkjddfpmpaaDiskC
namespace Go.Proofs.Ytbjpnkjddfpmpaa
open Go.RowKit

theorem zero_write (w : World) : (zeroValue 69).run Try.prog w = .ok (.agg #[.int .i64 0, .string ⟨#[]⟩]) w := by kernel_rfl
theorem look_run {w : World} {m : Nat} {f : Int → Option Value} (h : IsMap w m f) (i : Int) :
    (Instr.lookup 53 (.map (some m)) (.int .i64 i) true).run Try.prog w = .ok (.tuple #[(f i).getD (.agg #[.int .i64 0, .string ⟨#[]⟩]), .bool (f i).isSome]) w :=
  h.look Try.underlying53 Try.underlying3 i (zero_write w)

section
variable {w : World} {F : Foot} {g : Nat} {d : Dk}
theorem at_size (ho : d.Ok) (i : Int) (hi : d.has i) : (d.at_ i).size = 128 := by
  unfold Dk.at_
  cases hl : lastOf d.waits i with
  | some s =>
    obtain ⟨x, hx, _, rfl⟩ := lastOf_mem hl
    exact (ho.wait x hx).2
  | none =>
    simp only [Option.getD_none]
    have h0 := hi.1
    have h1 := hi.2
    rw [List.getD_eq_getElem?_getD, List.getElem?_eq_getElem (by omega)]
    exact ho.sect _ (List.getElem_mem _)
set_option maxRecDepth 100000 in
set_option maxHeartbeats 1000000 in
theorem read_ok (h : IsDisk w F g d) (i : Int) (hr : d.reachE i = 0) (s : ByteArray) (hs : d.at_ i = s) :
    Calls Try.prog 15 #[.pointer (some ⟨g, 0, none⟩), .int .i64 i] w fun e w' => e = .returned (.tuple #[.string s, .int .i64 0]) ∧ Below w.heap.size w w' := by
  have hreach := reach_any h i 0 hr
  obtain ⟨ho, vs, vq, m, r⟩ := h
  have hi : d.has i := by
    unfold Dk.reachE at hr
    split at hr
    · cases hr
    · split at hr
      · assumption
      · cases hr
  have hs128 := at_size ho i hi
  rw [hs] at hs128
  have hclone := fun W => cloneS_any s W (by omega)
  obtain ⟨b, cap, rfl, hc⟩ := own_head ho r.safe
  obtain ⟨c0, _, c2, _⟩ := r.cells
  obtain ⟨k, rfl⟩ := Int.eq_ofNat_of_zero_le hi.1
  have hk : (k : Int) < d.safe.length := hi.2
  have cell := r.safe.cellAt k (by omega)
  have hx : (strsV d.safe)[k]? = some (.string (d.safe.getD k zero128)) := by
    unfold strsV
    rw [List.getElem?_map, List.getElem?_eq_getElem (by omega), List.getD_eq_getElem?_getD, List.getElem?_eq_getElem (by omega)]
    rfl
  rw [hx] at cell
  have hlook := look_run r.last (k : Int)
  unfold lastV at hlook
  unfold Dk.at_ at hs
  rw [Int.toNat_natCast] at hs
  have h0 : (0 : Int) ≤ k := Int.natCast_nonneg _
  have HR := Lib.hid hreach
  have HC := Lib.hid hclone
  generalize d.safe.getD k zero128 = x at *
  generalize d.safe.length = n at *
  cases hl : lastOf d.waits (k : Int) with
  | none =>
    rw [hl] at hlook hs
    simp only [Option.map_none, Option.getD_none, Option.isSome_none] at hlook
    obtain rfl : x = s := hs
    clear hl r ho hreach hclone hi hr hx hs128
    go_enter Try.func15, Try.ntmps15
    go_wp2_with fail
    refine HR.out.mono ?_
    rintro e w1 ⟨rfl, rfl⟩
    go_wp2_with fail
    refine (HC.out _).mono ?_
    rintro e w1 ⟨rfl, hb⟩
    go_wp2
    go_ret2
    exact ⟨rfl, below2 ((Below.refl _ _).alloc (Nat.le_refl _) _) hb⟩
  | some y =>
    rw [hl] at hlook hs
    obtain rfl : y = s := hs
    simp only [Option.map_some, Option.getD_some, Option.isSome_some, writeV] at hlook
    clear hl r ho hreach hclone hi hr hx hs128
    go_enter Try.func15, Try.ntmps15
    go_wp2_with fail
    refine HR.out.mono ?_
    rintro e w1 ⟨rfl, rfl⟩
    go_wp2_with fail
    refine (HC.out _).mono ?_
    rintro e w1 ⟨rfl, hb⟩
    go_wp2
    go_ret2
    exact ⟨rfl, below2 ((Below.refl _ _).alloc (Nat.le_refl _) _) hb⟩
set_option maxRecDepth 100000 in
set_option maxHeartbeats 1000000 in
theorem read_no (h : IsDisk w F g d) (i : Int) (n : Nat) (hr : d.reachE i = n) (hn : (n : Int) ≠ 0) :
    Calls Try.prog 15 #[.pointer (some ⟨g, 0, none⟩), .int .i64 i] w fun e w' => e = .returned (.tuple #[.string ⟨#[]⟩, .int .i64 n]) ∧ Below w.heap.size w w' := by
  have H := Lib.hid (reach_any h i n hr)
  have hne : ((n : Int) != 0) = true := by simpa using hn
  clear h hr
  go_enter Try.func15, Try.ntmps15
  go_wp2_with fail
  refine H.out.mono ?_
  rintro e w1 ⟨rfl, rfl⟩
  go_wp2
  go_ret2
  exact ⟨rfl, Below.refl _ _⟩
set_option maxRecDepth 100000 in
theorem read_nil (i : Int) (w : World) :
    Calls Try.prog 15 #[.pointer none, .int .i64 i] w fun e w' => e = .returned (.tuple #[.string ⟨#[]⟩, .int .i64 10]) ∧ w = w' := by
  go_enter Try.func15, Try.ntmps15
  go_wp2_with fail
  refine (reach_nil i _).mono ?_
  rintro e w1 ⟨rfl, rfl⟩
  go_wp2
  go_ret2
  exact ⟨rfl, rfl⟩
theorem read_any (h : IsDisk w F g d) (i : Int) :
    Calls Try.prog 15 #[.pointer (some ⟨g, 0, none⟩), .int .i64 i] w fun e w' => e = .returned (.tuple #[.string (d.read i), .int .i64 (d.reachE i)]) ∧ Below w.heap.size w w' := by
  by_cases hr : d.reachE i = 0
  · have e : d.read i = d.at_ i := by unfold Dk.read; rw [if_pos hr]
    rw [e, hr]
    exact read_ok h i hr _ rfl
  · have e : d.read i = ⟨#[]⟩ := by unfold Dk.read; rw [if_neg hr]
    rw [e]
    exact read_no h i _ rfl (by omega)
end
end Go.Proofs.Ytbjpnkjddfpmpaa
