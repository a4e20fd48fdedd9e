/- Package lock: isPage, has, besides; a map is cloned. -/
import Derived.Test.YtkeonffkaopclaaLkA
import Derived.Shelf.SlMaps.Clone
import Derived.Laws.Externs
namespace Go.Proofs.Ytkeonffkaopclaa
open Go.RowKit

section
variable {w : World}
set_option maxRecDepth 100000 in
set_option maxHeartbeats 4000000 in
theorem lkPage_any (i : Int) (w : World) : Calls Try.prog 21 #[.int .i64 i] w fun e w' => e = .returned (.bool (decide (0 ≤ i ∧ i < 8))) ∧ w = w' := by
  by_cases h0 : 0 ≤ i
  · have h0' : decide (0 ≤ i) = true := decide_eq_true h0
    by_cases h8 : i < 8
    · have h8' : decide (i < 8) = true := decide_eq_true h8
      have e : decide (0 ≤ i ∧ i < 8) = true := decide_eq_true ⟨h0, h8⟩
      rw [e]
      clear e
      go_enter Try.func21, Try.ntmps21
      go_wp2
      go_ret
      exact ⟨rfl, rfl⟩
    · have h8' : decide (i < 8) = false := decide_eq_false h8
      have e : decide (0 ≤ i ∧ i < 8) = false := decide_eq_false fun h => h8 h.2
      rw [e]
      clear e
      go_enter Try.func21, Try.ntmps21
      go_wp2
      go_ret
      exact ⟨rfl, rfl⟩
  · have h0' : decide (0 ≤ i) = false := decide_eq_false h0
    have e : decide (0 ≤ i ∧ i < 8) = false := decide_eq_false fun h => h0 h.1
    rw [e]
    clear e
    go_enter Try.func21, Try.ntmps21
    go_wp2
    go_ret
    exact ⟨rfl, rfl⟩
set_option maxRecDepth 100000 in
set_option maxHeartbeats 4000000 in
theorem lkHas_any {m : Option Nat} {l : List Int} (h : Held w m l) (al : Bool) (t : Int) :
    Calls Try.prog 24 #[.agg #[.map m, .bool al], .int .i64 t] w fun e w' => e = .returned (.bool (decide (t ∈ l))) ∧ Below w.heap.size w w' := by
  have HB := Lib.hid ((Below.refl w.heap.size w).alloc (Nat.le_refl _) (.cells #[.map m, .bool al] 46))
  have hl := look9 (h.below HB.out) t
  have hl2 := look9 (h.below HB.out.drew) t
  have x := Blk.new w 46 #[.map m, .bool al]
  have c0 := x.cell 0
  clear h x
  generalize decide (t ∈ l) = b at *
  go_enter Try.func24, Try.ntmps24
  go_wp2
  go_ret
  exact ⟨rfl, HB.out.alloc (by simp) _⟩
set_option maxRecDepth 100000 in
set_option maxHeartbeats 4000000 in
theorem lkBesides_any {m : Option Nat} {x : Pg9} (h : Held w m x.who) (hn : x.who.Nodup) (hf : x.who.length ≤ 2147483647) (al : Bool) (t : Int) :
    Calls Try.prog 22 #[.agg #[.map m, .bool al], .int .i64 t] w fun e w' => e = .returned (.bool (x.others t)) ∧ Below w.heap.size w w' := by
  have HB := Lib.hid ((Below.refl w.heap.size w).alloc (Nat.le_refl _) (.cells #[.map m, .bool al] 46))
  have hl := len9 (h.below HB.out) hn
  have hl2 := len9 (h.below HB.out.drew) hn
  have K := Lib.hid (lkHas_any (h.below HB.out) al t)
  have X := Blk.new w 46 #[.map m, .bool al]
  have c0 := X.cell 0
  have c1 := X.cell 1
  simp at c0 c1
  have hw1 : IntKind.i64.wrap ((x.who.length : Int) - 1) = (x.who.length : Int) - 1 := IntWalk.i64_in _ (by omega)
  rw [others_count hn]
  have E1 : Hid (decide ((1 : Int) < (x.who.length : Int)) = decide ((0 : Int) < (x.who.length : Int) - 1)) := decide_eq_decide.2 (by omega)
  have E0 : Hid (decide (0 < x.who.length) = decide ((0 : Int) < (x.who.length : Int) - 0)) := decide_eq_decide.2 (by omega)
  clear h hn hf X
  generalize x.who.length = n at *
  by_cases ht : t ∈ x.who
  · rw [if_pos ht]
    have ht' : decide (t ∈ x.who) = true := decide_eq_true ht
    rw [ht'] at K
    clear ht ht'
    go_enter Try.func22, Try.ntmps22
    go_wp2_with fail
    refine K.out.mono ?_
    rintro e w1 ⟨rfl, hb⟩
    have HB1 := Lib.hid (HB.out.trans (hb.mono HB.out.size))
    clear hb
    go_wp2
    go_ret
    exact ⟨by rw [← E1.out]; rfl, HB1.out⟩
  · rw [if_neg ht]
    have ht' : decide (t ∈ x.who) = false := decide_eq_false ht
    rw [ht'] at K
    clear ht ht'
    go_enter Try.func22, Try.ntmps22
    go_wp2_with fail
    refine K.out.mono ?_
    rintro e w1 ⟨rfl, hb⟩
    have HB1 := Lib.hid (HB.out.trans (hb.mono HB.out.size))
    clear hb
    go_wp2
    go_ret
    exact ⟨by rw [← E0.out]; rfl, HB1.out⟩
set_option maxRecDepth 100000 in
set_option maxHeartbeats 2000000 in
theorem lkClone_any {m : Option Nat} {l : List Int} (h : Held w m l) :
    Calls Try.prog 23 #[.map m] w fun e w' => ∃ m', e = .returned (.map m') ∧ Held w' m' l ∧ (∀ b, m' = some b → w.heap.size ≤ b) ∧ Below w.heap.size w w' := by
  have hq := fun w => run_eql_map_nil_sl (P := Try.prog) w 44 _ _ m Try.underlying44
  cases m with
  | none =>
    obtain rfl : l = [] := h
    go_enter Try.func23, Try.ntmps23
    go_wp2
    go_ret
    exact ⟨none, rfl, show Held w none [] from rfl, fun b hb => (nomatch hb : False).elim, Below.refl _ _⟩
  | some b =>
    obtain ⟨es, clock, hb, he, hf⟩ := h
    have hm : IsMap (w.alloc (.map es clock)) w.heap.size (setV l) := ⟨es, clock, (MapKept.heap_alloc w _).1, he, hf⟩
    have HM := Lib.hid hm
    have HB := Lib.hid hb
    clear hm he hf hb
    go_enter Try.func23, Try.ntmps23
    go_wp2
    rw [run_callFunc_extern Try.func25 (by kernel_rfl) (by kernel_rfl) (by kernel_rfl) (e := Extern.MapsClone.clone) (by kernel_rfl), run_maps_clone_sl w 44 HB.out]
    simp only [Result.andThen]
    rw [Oper.upon_value]
    go_wp2
    rw [run_typeAssert_map_sl _ 44 20 _ _ _ Try.underlying44]
    simp only [Result.andThen]
    rw [Oper.upon_value]
    go_wp2
    go_ret
    exact ⟨some w.heap.size, rfl, HM.out, fun b hb => by cases hb; exact Nat.le_refl _, (Below.refl _ _).alloc (Nat.le_refl _) _⟩
end
end Go.Proofs.Ytkeonffkaopclaa
