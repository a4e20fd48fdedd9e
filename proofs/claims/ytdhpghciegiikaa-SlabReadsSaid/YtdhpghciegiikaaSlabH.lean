/- Layer 1's statements: the walks of the laws. -/
import Derived.Test.YtdhpghciegiikaaSlabG
namespace Go.Proofs.Ytdhpghciegiikaa
open Go.RowKit

theorem walkSlabReads (s : ByteArray) (w : World) (_ : s.size ≤ maxLen) : Calls Try.prog 4 #[.string s] w fun e w' => e = .returned (.bool true) ∧ Below w.heap.size w w' := by
  by_cases hl : (1000 : Int) < s.size
  · exact slabReads_long s w hl
  · by_cases h : IsSlab s
    · exact slabReads_yes s w (by omega) h
    · exact slabReads_no s w (by omega) h

theorem packed_eq {E I E' I' : Nat} {b b' : ByteArray} (hE : E < 4294967296) (hI : I < 4294967296) (hb : b.size ≤ 112) (hE' : E' < 4294967296) (hI' : I' < 4294967296) (hb' : b'.size ≤ 112) :
    ((packed E I b).toList == (packed E' I' b').toList) = ((E : Int) == (E' : Int) && (I : Int) == (I' : Int) && b.toList == b'.toList) := by
  rw [Bool.eq_iff_iff]
  simp only [beq_iff_eq, Bool.and_eq_true]
  rw [ByteArray.toList_eq, ByteArray.toList_eq, ByteArray.toList_eq, ByteArray.toList_eq]
  constructor
  · intro h
    have e : packed E I b = packed E' I' b' := str_ext h
    have h1 := partE_packed (E := E) (I := I) (b := b) hE hb
    have h2 := partI_packed (E := E) (I := I) (b := b) hI hb
    have h3 := partB_packed (E := E) (I := I) (b := b) hb
    rw [e, partE_packed hE' hb'] at h1
    rw [e, partI_packed hI' hb'] at h2
    rw [e, partB_packed hb'] at h3
    exact ⟨⟨by rw [h1], by rw [h2]⟩, by rw [h3]⟩
  · rintro ⟨⟨h1, h2⟩, h3⟩
    have h4 : b = b' := str_ext h3
    have h5 : E = E' := by omega
    have h6 : I = I' := by omega
    rw [h4, h5, h6]

section
variable (E I E' I' : Nat) (b b' : ByteArray) (w : World)
set_option maxRecDepth 100000 in
set_option maxHeartbeats 4000000 in
theorem slabOne_first (hl : 112 < b.size) (hm : b.size ≤ maxLen) (hm' : b'.size ≤ maxLen) (hE' : E' < 4294967296) (hI' : I' < 4294967296) :
    Calls Try.prog 6 #[.agg #[.int .u32 E, .int .u32 I, .string b], .agg #[.int .u32 E', .int .u32 I', .string b']] w fun e w' => e = .returned (.bool true) ∧ Below w.heap.size w w' := by
  have other : ∀ W, ∃ v : ByteArray × Int, Calls Try.prog 10 #[.agg #[.int .u32 E', .int .u32 I', .string b']] W fun e w' => e = .returned (.tuple #[.string v.1, .int .i64 v.2]) ∧ Below W.heap.size W w' := fun W => by
    by_cases h : 112 < b'.size
    · exact ⟨(⟨#[]⟩, 1), pack_long E' I' b' W h hm'⟩
    · exact ⟨(packed E' I' b', 0), pack_c E' I' b' W hE' hI' (by omega)⟩
  have hO := Lib.hid other
  clear other
  go_enter Try.func6, Try.ntmps6
  go_wp2_with fail
  refine (pack_long E I b _ hl hm).mono ?_
  rintro e w1 ⟨rfl, hb1⟩
  have hy := ((Blk.new (w.alloc (.cells #[.int .u32 E, .int .u32 I, .string b] 24)) 24 #[.int .u32 E', .int .u32 I', .string b'])).keep hb1 (by simp)
  simp only [World.size_alloc] at hy
  have c0 := hy.cellAt (i := 0) (by simp)
  have c1 := hy.cellAt (i := 1) (by simp)
  have c2 := hy.cellAt (i := 2) (by simp)
  simp at c0 c1 c2
  have hB : Below w.heap.size w w1 := (((Below.refl _ _).alloc (Nat.le_refl _) _).alloc (by simp) _).trans (hb1.mono (by simp; omega))
  clear hb1 hy
  go_wp2_with fail
  obtain ⟨v, hv⟩ := hO.out w1
  refine hv.mono ?_
  rintro e w2 ⟨rfl, hb2⟩
  clear hv
  go_wp2_with fail
  refine (awake_any _).mono ?_
  rintro e w3 ⟨rfl, hb3⟩
  go_wp2_with fail
  refine (awake_any _).mono ?_
  rintro e w4 ⟨rfl, hb4⟩
  go_wp2
  go_ret
  exact ⟨rfl, below2 (below2 (below2 hB hb2) hb3) hb4⟩

set_option maxRecDepth 100000 in
set_option maxHeartbeats 4000000 in
theorem slabOne_second (hE : E < 4294967296) (hI : I < 4294967296) (hl : b.size ≤ 112) (hl' : 112 < b'.size) (hm' : b'.size ≤ maxLen) :
    Calls Try.prog 6 #[.agg #[.int .u32 E, .int .u32 I, .string b], .agg #[.int .u32 E', .int .u32 I', .string b']] w fun e w' => e = .returned (.bool true) ∧ Below w.heap.size w w' := by
  go_enter Try.func6, Try.ntmps6
  go_wp2_with fail
  refine (pack_c E I b _ hE hI hl).mono ?_
  rintro e w1 ⟨rfl, hb1⟩
  have hy := ((Blk.new (w.alloc (.cells #[.int .u32 E, .int .u32 I, .string b] 24)) 24 #[.int .u32 E', .int .u32 I', .string b'])).keep hb1 (by simp)
  simp only [World.size_alloc] at hy
  have c0 := hy.cellAt (i := 0) (by simp)
  have c1 := hy.cellAt (i := 1) (by simp)
  have c2 := hy.cellAt (i := 2) (by simp)
  simp at c0 c1 c2
  have hB : Below w.heap.size w w1 := (((Below.refl _ _).alloc (Nat.le_refl _) _).alloc (by simp) _).trans (hb1.mono (by simp; omega))
  clear hb1 hy
  go_wp2_with fail
  refine (pack_long E' I' b' _ hl' hm').mono ?_
  rintro e w2 ⟨rfl, hb2⟩
  go_wp2_with fail
  refine (awake_any _).mono ?_
  rintro e w3 ⟨rfl, hb3⟩
  go_wp2_with fail
  refine (awake_any _).mono ?_
  rintro e w4 ⟨rfl, hb4⟩
  go_wp2
  go_ret
  exact ⟨rfl, below2 (below2 (below2 hB hb2) hb3) hb4⟩

set_option maxRecDepth 100000 in
set_option maxHeartbeats 4000000 in
theorem slabOne_both (hE : E < 4294967296) (hI : I < 4294967296) (hl : b.size ≤ 112) (hE' : E' < 4294967296) (hI' : I' < 4294967296) (hl' : b'.size ≤ 112) :
    Calls Try.prog 6 #[.agg #[.int .u32 E, .int .u32 I, .string b], .agg #[.int .u32 E', .int .u32 I', .string b']] w fun e w' => e = .returned (.bool true) ∧ Below w.heap.size w w' := by
  have heq := Lib.hid (packed_eq hE hI hl hE' hI' hl')
  go_enter Try.func6, Try.ntmps6
  go_wp2_with fail
  refine (pack_c E I b _ hE hI hl).mono ?_
  rintro e w1 ⟨rfl, hb1⟩
  have hx := ((Blk.new w 24 #[.int .u32 E, .int .u32 I, .string b]).alloc (.cells #[.int .u32 E', .int .u32 I', .string b'] 24)).keep hb1 (by simp; omega)
  have hy := ((Blk.new (w.alloc (.cells #[.int .u32 E, .int .u32 I, .string b] 24)) 24 #[.int .u32 E', .int .u32 I', .string b'])).keep hb1 (by simp)
  simp only [World.size_alloc] at hy
  have c0 := hy.cellAt (i := 0) (by simp)
  have c1 := hy.cellAt (i := 1) (by simp)
  have c2 := hy.cellAt (i := 2) (by simp)
  simp at c0 c1 c2
  have hB : Below w.heap.size w w1 := (((Below.refl _ _).alloc (Nat.le_refl _) _).alloc (by simp) _).trans (hb1.mono (by simp; omega))
  clear hb1
  go_wp2_with fail
  refine (pack_c E' I' b' _ hE' hI' hl').mono ?_
  rintro e w2 ⟨rfl, hb2⟩
  go_wp2_with fail
  refine (awake_any _).mono ?_
  rintro e w3 ⟨rfl, hb3⟩
  have hx3 := hx.keep (below2 hb2 hb3) hx.lt
  have hy3 := hy.keep (below2 hb2 hb3) hy.lt
  clear c0 c1 c2 hx hy
  go_wp2_with (first
    | (refine wpList_load_row rfl 24 _ rfl w.heap.size rfl 24 _ (0, 0) _ hx3 Try.underlying24 rfl (by kernel_rfl) ?_)
    | (refine wpList_load_row rfl 24 _ rfl (w.heap.size + 1) rfl 24 _ (0, 0) _ hy3 Try.underlying24 rfl (by kernel_rfl) ?_)
    | (refine wp_slab_eql _ _ _ rfl rfl E I E' I' b b' rfl rfl ?_))
  go_ret
  refine ⟨?_, below2 (below2 hB hb2) hb3⟩
  show Ending.returned (.bool (((packed E I b).toList == (packed E' I' b').toList) == ((E : Int) == (E' : Int) && (I : Int) == (I' : Int) && b.toList == b'.toList))) = _
  rw [heq.out]
  simp
end

theorem walkSlabOne (E I : Nat) (b : ByteArray) (E' I' : Nat) (b' : ByteArray) (w : World) (hE : E < 4294967296) (hI : I < 4294967296) (hb : b.size ≤ maxLen) (hE' : E' < 4294967296) (hI' : I' < 4294967296) (hb' : b'.size ≤ maxLen) :
    Calls Try.prog 6 #[.agg #[.int .u32 E, .int .u32 I, .string b], .agg #[.int .u32 E', .int .u32 I', .string b']] w fun e w' => e = .returned (.bool true) ∧ Below w.heap.size w w' := by
  by_cases h : 112 < b.size
  · exact slabOne_first E I E' I' b b' w h hb hb' hE' hI'
  · by_cases h' : 112 < b'.size
    · exact slabOne_second E I E' I' b b' w hE hI (by omega) h' hb'
    · exact slabOne_both E I E' I' b b' w hE hI (by omega) hE' hI' (by omega)
end Go.Proofs.Ytdhpghciegiikaa
