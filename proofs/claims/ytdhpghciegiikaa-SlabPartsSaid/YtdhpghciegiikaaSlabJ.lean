/- Layer 1's statements: the walks of SlabSums and SlabTurns. -/
import Derived.Test.YtdhpghciegiikaaSlabI
import Derived.Lib.ConvBytes
import Derived.Laws.IdiomStrings
namespace Go.Proofs.Ytdhpghciegiikaa
open Go.RowKit

/-- A row of bytes that may be written, at a block's beginning. -/
structure Bytes (W : World) (g : Nat) (l : List UInt8) : Prop where
  lt : g < W.heap.size
  cell : ∀ j, j < l.length → W.cell? ⟨g, j, none⟩ = some (.int .u8 (l.getD j 0).toNat)
  frozen : ∀ j, j < l.length → W.frozen? ⟨g, j, none⟩ = false
theorem Bytes.keep {W W' : World} {g : Nat} {l : List UInt8} (h : Bytes W g l) (hb : Below W.heap.size W W') : Bytes W' g l :=
  ⟨Nat.lt_of_lt_of_le h.lt hb.size, fun j hj => (hb.cell (p := ⟨g, j, none⟩) h.lt).trans (h.cell j hj), fun j hj => (hb.frozen (p := ⟨g, j, none⟩) h.lt).trans (h.frozen j hj)⟩
theorem Bytes.set {W : World} {g : Nat} {l : List UInt8} (h : Bytes W g l) (i : Nat) (v : UInt8) : Bytes (W.setCell ⟨g, i, none⟩ (.int .u8 v.toNat)) g (l.set i v) := by
  refine ⟨by simpa [World.setCell] using h.lt, fun j hj => ?_, fun j hj => ?_⟩
  · rw [List.length_set] at hj
    by_cases hij : i = j
    · subst hij
      rw [show (l.set i v).getD i 0 = v from by simp [List.getD_eq_getElem?_getD, hj]]
      have hc := h.cell i hj
      unfold World.cell? at hc ⊢
      simp only [World.setCell, Array.getElem?_modify] at hc ⊢
      cases hg : W.heap[g]? with
      | none => simp [hg] at hc
      | some o =>
        cases o with
        | cells c e f =>
          simp only [hg] at hc
          simp only [Option.map_some, if_true]
          have hlt : i < c.size := by
            have hc' : c[i]? = some (Value.int .u8 ((l.getD i 0).toNat : Int)) := by simpa using hc
            exact (Array.getElem?_eq_some_iff.1 hc').1
          simp [hlt]
        | _ => simp [hg] at hc
    · rw [show (l.set i v).getD j 0 = l.getD j 0 from by simp [List.getD_eq_getElem?_getD, hij]]
      rw [World.cell?_setCell_other W _ _ _ (fun e => hij (by injection e))]
      exact h.cell j hj
  · rw [List.length_set] at hj
    rw [World.frozen?_setCell]
    exact h.frozen j hj
/-- '[]byte(s)'. -/
theorem str_bytes (W : World) (s : ByteArray) :
    ∃ W' cap, (convert 9 37 (.string s)).run Try.prog W = .ok (.slice (some ⟨W.heap.size, 0, none⟩) s.size cap) W' ∧ Below W.heap.size W W' ∧ Bytes W' W.heap.size s.data.toList := by
  refine ⟨_, _, Lib.run_convert_string_bytes W 9 37 5 s Try.underlying9 Try.underlying37 Try.underlying5, ⟨?_, ?_, ?_, by rw [Lib.bytesWorld_size]; omega, fun k hk => Lib.bytesWorld_at_old W 5 s k hk⟩, ⟨by rw [Lib.bytesWorld_size]; omega, fun j hj => Lib.bytesWorld_cell W 5 s j hj, fun j hj => ?_⟩⟩
  · unfold Lib.bytesWorld World.freeze; split <;> rfl
  · unfold Lib.bytesWorld World.freeze; split <;> rfl
  · unfold Lib.bytesWorld World.freeze; split <;> rfl
  · unfold World.frozen?
    rw [Lib.bytesWorld_at_new]
    have hc : s.size ≤ (Lib.bytesCells W 5 s).size := by unfold Lib.bytesCells; rw [Array.size_append, Array.size_map]; exact Nat.le_add_right _ _
    rw [size_bytes] at hj
    simp
    omega
/-- 'string(b)'. -/
theorem bytes_str {W : World} {g : Nat} {l : List UInt8} (h : Bytes W g l) (n cap : Nat) (hn : l.length = n) :
    (convert 37 9 (.slice (some ⟨g, 0, none⟩) n cap)).run Try.prog W = .ok (.string ⟨l.toArray⟩) W := by
  subst hn
  refine run_convert_bytes_back W 37 9 5 ⟨g, 0, none⟩ cap l Try.underlying37 Try.underlying5 Try.underlying9 fun j hj => ?_
  have hadd : (⟨g, 0, none⟩ : Addr).add j = ⟨g, j, none⟩ := by unfold Addr.add; split <;> simp_all
  rw [hadd, h.cell j hj]
  simp [List.getD_eq_getElem?_getD, hj]

theorem set_split {α : Type} (l : List α) (k : Nat) (h : k < l.length) (v : α) : l = l.take k ++ l[k] :: l.drop (k + 1) ∧ l.set k v = l.take k ++ v :: l.drop (k + 1) := by
  constructor
  · rw [← List.drop_eq_getElem_cons h, List.take_append_drop]
  · exact List.set_eq_take_append_cons_drop.trans (if_pos h)
/-- Bytes of which one was turned have another sum. -/
theorem sum_turned (l : List UInt8) (k : Nat) (h : k < l.length) (c : UInt8) (hc : c ≠ 0) : Crc.sum l ≠ Crc.sum (l.set k (l.getD k 0 ^^^ c)) := by
  intro he
  have hg : l.getD k 0 = l[k] := by simp [List.getD_eq_getElem?_getD, h]
  obtain ⟨h1, h2⟩ := set_split l k h (l[k] ^^^ c)
  rw [hg, h2] at he
  conv at he => lhs; rw [h1]
  have hx := Crc.sum_one _ _ _ _ he
  apply hc
  have hz : l[k] ^^^ (l[k] ^^^ c) = l[k] ^^^ l[k] := by rw [← hx]
  rw [← UInt8.xor_assoc, UInt8.xor_self] at hz
  simpa using hz

set_option maxRecDepth 100000 in
set_option maxHeartbeats 4000000 in
theorem slabSums_rest (s : ByteArray) (at_ : Int) (c : UInt8) (w : World) (h0 : s ≠ ByteArray.empty) (h0' : ((s.size : Int) == 0) = false) (hl : (s.size : Int) ≤ 1000) (hc : ((c.toNat : Int) == 0) = false)
    (u k : Nat) (hu : IntKind.u64.wrap at_ = (u : Int)) (hk : (u : Int).tmod (s.size : Int) = (k : Int)) (hk' : (u : Int) % (s.size : Int) = (k : Int)) (hlt : k < s.size) :
    Calls Try.prog 8 #[.string s, .int .i64 at_, .int .u8 c.toNat] w fun e w' => e = .returned (.bool true) ∧ Below w.heap.size w w' := by
  have hm : s.size ≤ maxLen := by unfold maxLen; omega
  have hcz : c ≠ 0 := by rintro rfl; simp at hc
  have hS := sum_turned s.data.toList k hlt c hcz
  obtain ⟨b, hbk⟩ : ∃ b, s.data.toList.getD k 0 = b := ⟨_, rfl⟩
  rw [hbk] at hS
  replace hS := Lib.hid hS
  have hx := u8_xor_nat b.toNat c.toNat b.toNat_lt c.toNat_lt
  clear hcz
  go_enter Try.func8, Try.ntmps8
  go_wp2_with fail
  refine (awake_any _).mono ?_
  rintro e w1 ⟨rfl, hb1⟩
  obtain ⟨w2, cap, hcv, hb2, hby⟩ := str_bytes w1 s
  have hc0 := hby.cell k hlt
  have hf0 := hby.frozen k hlt
  rw [hbk] at hc0
  have hby' := hby.set k (b ^^^ c)
  have hB : Below w.heap.size w (w2.setCell ⟨w1.heap.size, k, none⟩ (.int .u8 ((b ^^^ c).toNat : Nat))) := (below2 hb1 hb2).setCell hb1.size _
  rw [UInt8.toNat_xor] at hby' hB
  clear hbk
  go_wp2_with fail
  have hlen : (s.data.toList.set k (b ^^^ c)).length = s.size := by rw [List.length_set, size_bytes]
  have hml : (⟨(s.data.toList.set k (b ^^^ c)).toArray⟩ : ByteArray).size ≤ maxLen := by rw [← size_bytes]; rw [hlen]; exact hm
  have hne : ((Crc.sum s.data.toList : Int) != (Crc.sum (s.data.toList.set k (b ^^^ c)) : Int)) = true := by
    have := hS.out
    rw [bne_iff_ne]
    omega
  have hLen := Lib.hid hlen
  clear hc0 hf0 hcv hx hlen hby hu hk hk'
  generalize w2.setCell _ _ = w3 at *
  generalize s.data.toList.set k (b ^^^ c) = l' at *
  generalize w1.heap.size = g at *
  refine' wp_region_conf 7 [.is _, .is _, .is _, .is _, .is _, .is _, .is _] (by kernel_rfl) (by kernel_rfl) (by kernel_rfl) (by kernel_rfl) rfl ?main
  case main =>
    refine obs_is (fun w4 hE _ => ?_) ?_
    · go_wp2
      exact post_is (Below.refl _ _)
    simp only [Act.put, List.setIfInBounds_toArray, List.set_cons_zero, List.set_cons_succ]
    refine obs_is (fun w4 hE _ => ?_) ?_
    · go_wp2_with fail
      refine (sum_any s _ hm).mono ?_
      rintro e w5 ⟨rfl, hb5⟩
      go_wp2
      exact post_is hb5
    simp only [Act.put, List.setIfInBounds_toArray, List.set_cons_zero, List.set_cons_succ]
    refine obs_is (fun w4 hE _ => ?_) ?_
    · go_wp2
      exact post_is (Below.refl _ _)
    simp only [Act.put, List.setIfInBounds_toArray, List.set_cons_zero, List.set_cons_succ]
    refine obs_is (fun w4 hE _ => ?_) ?_
    · have hb4 : Bytes w4 g l' := Bytes.keep (W := w3.drew) ⟨hby'.lt, hby'.cell, hby'.frozen⟩ hE
      have hcv := bytes_str hb4 s.size cap hLen.out
      go_wp2
      exact post_is (Below.refl _ _)
    simp only [Act.put, List.setIfInBounds_toArray, List.set_cons_zero, List.set_cons_succ]
    refine obs_is (fun w4 hE _ => ?_) ?_
    · go_wp2_with fail
      refine (sum_any ⟨l'.toArray⟩ _ hml).mono ?_
      rintro e w5 ⟨rfl, hb5⟩
      go_wp2
      exact post_is hb5
    simp only [Act.put, List.setIfInBounds_toArray, List.set_cons_zero, List.set_cons_succ]
    iterate 2
      refine obs_is (fun w4 hE _ => ?_) ?_
      · go_wp2
        exact post_is (Below.refl _ _)
      simp only [Act.put, List.setIfInBounds_toArray, List.set_cons_zero, List.set_cons_succ]
    refine obs_end fun w4 hE _ => ?_
    go_wp2
    go_ret
    exact ⟨rfl, hB.drew.trans (hE.mono hB.size)⟩

set_option maxRecDepth 100000 in
set_option maxHeartbeats 4000000 in
theorem slabSums_out (s : ByteArray) (at_ : Int) (c : UInt8) (w : World) (h : ((s.size : Int) == 0) = true ∨ (((s.size : Int) == 0) = false ∧ (1000 : Int) < s.size) ∨ (((s.size : Int) == 0) = false ∧ (s.size : Int) ≤ 1000 ∧ ((c.toNat : Int) == 0) = true)) :
    Calls Try.prog 8 #[.string s, .int .i64 at_, .int .u8 c.toNat] w fun e w' => e = .returned (.bool true) ∧ Below w.heap.size w w' := by
  rcases h with h | ⟨h1, h2⟩ | ⟨h1, h2, h3⟩
  all_goals
    go_enter Try.func8, Try.ntmps8
    go_wp2_with fail
    refine (awake_any _).mono ?_
    rintro e w1 ⟨rfl, hb1⟩
    go_wp2_with fail
    refine (awake_any _).mono ?_
    rintro e w2 ⟨rfl, hb2⟩
    go_wp2
    go_ret
    exact ⟨rfl, below2 hb1 hb2⟩

theorem wrap_u64 (a : Int) : ∃ u : Nat, IntKind.u64.wrap a = (u : Int) := by
  rw [IntKind.wrap_u64]
  exact ⟨(a % 18446744073709551616).toNat, by omega⟩
theorem walkSlabSums (s : ByteArray) (at_ c : Int) (w : World) (_ : s.size ≤ maxLen) (_ : (Lit.int .i64 at_).wf = true) (hc : (Lit.int .u8 c).wf = true) :
    Calls Try.prog 8 #[.string s, .int .i64 at_, .int .u8 c] w fun e w' => e = .returned (.bool true) ∧ Below w.heap.size w w' := by
  have hcb : 0 ≤ c ∧ c ≤ 255 := by simpa [Lit.wf, IntKind.min, IntKind.max, IntKind.signed, IntKind.bits] using hc
  obtain ⟨d, rfl⟩ : ∃ d : UInt8, c = (d.toNat : Int) := ⟨UInt8.ofNat c.toNat, by simp; omega⟩
  cases h0 : ((s.size : Int) == 0) with
  | true => exact slabSums_out s at_ d w (.inl h0)
  | false =>
    by_cases h1 : (1000 : Int) < s.size
    · exact slabSums_out s at_ d w (.inr (.inl ⟨h0, h1⟩))
    · cases h2 : ((d.toNat : Int) == 0) with
      | true => exact slabSums_out s at_ d w (.inr (.inr ⟨h0, by omega, h2⟩))
      | false =>
        obtain ⟨u, hu⟩ := wrap_u64 at_
        have hp : 0 < s.size := by
          rcases Nat.eq_zero_or_pos s.size with h | h
          · rw [h] at h0; cases h0
          · exact h
        refine slabSums_rest s at_ d w (fun e => by rw [e] at hp; exact absurd hp (by decide)) h0 (by omega) h2 u (u % s.size) hu ?_ (by simp) (Nat.mod_lt _ hp)
        rw [Int.tmod_eq_emod_of_nonneg (Int.natCast_nonneg u)]
        simp
end Go.Proofs.Ytdhpghciegiikaa
