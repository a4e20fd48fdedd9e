/- Layer 1's statements: the walk of SlabTurns. -/
import Derived.Test.YtdhpghciegiikaaSlabJ
namespace Go.Proofs.Ytdhpghciegiikaa
open Go.RowKit

theorem le4_inj {a b : Nat} (ha : a < 4294967296) (hb : b < 4294967296) (h : le4 a = le4 b) : a = b := by
  unfold le4 at h
  simp only [List.cons.injEq, and_true] at h
  obtain ⟨h0, h1, h2, h3⟩ := h
  have e0 := congrArg UInt8.toNat h0
  have e1 := congrArg UInt8.toNat h1
  have e2 := congrArg UInt8.toNat h2
  have e3 := congrArg UInt8.toNat h3
  simp at e0 e1 e2 e3
  omega
/-- A slab's sector ends in the sum of what stands ahead of it. -/
theorem isSlab_sum {s : ByteArray} (h : IsSlab s) : s.data.toList.drop 124 = le4 (Crc.sum (s.data.toList.take 124)) := by
  have hb := partB_size h
  have e := h.2.2.2
  rw [sect_eq _ _ _ hb] at e
  have hl := front_len (partE s) (partI s) (partB s) hb
  rw [← e, List.drop_left' hl, List.take_left' hl]
/-- A slab's sector of which one byte was turned is none. -/
theorem turned_not {s : ByteArray} (h : IsSlab s) (i : Nat) (hi : i < 128) (m : UInt8) (hm : m ≠ 0) :
    ¬ IsSlab ⟨(s.data.toList.set i (s.data.toList.getD i 0 ^^^ m)).toArray⟩ := by
  intro h'
  have e := isSlab_sum h
  have e' := isSlab_sum h'
  have hlen : s.data.toList.length = 128 := by rw [size_bytes]; exact h.1
  simp only at e'
  generalize s.data.toList = l at *
  by_cases hc : i < 124
  · rw [List.drop_set_of_lt hc, e, List.take_set] at e'
    have hs := le4_inj (Crc.sum_lt _) (Crc.sum_lt _) e'
    have hg : l.getD i 0 = (l.take 124).getD i 0 := by simp [List.getD_eq_getElem?_getD, hc]
    rw [hg] at hs
    exact sum_turned (l.take 124) i (by simp; omega) m hm hs
  · rw [List.take_set_of_le (by omega), ← e] at e'
    have hx := congrArg (fun q => q.getD (i - 124) 0) e'
    simp only [List.getD_eq_getElem?_getD, List.getElem?_drop, show 124 + (i - 124) = i by omega] at hx
    rw [List.getElem?_set_self (by omega), List.getElem?_eq_getElem (by omega)] at hx
    simp only [Option.getD_some] at hx
    apply hm
    have hz : l[i]'(by omega) ^^^ (l[i]'(by omega) ^^^ m) = l[i]'(by omega) ^^^ l[i]'(by omega) := by rw [hx]
    rw [← UInt8.xor_assoc, UInt8.xor_self] at hz
    simpa using hz

section
variable (E I : Nat) (b : ByteArray) (bit : Int) (w : World)
set_option maxRecDepth 100000 in
set_option maxHeartbeats 4000000 in
theorem slabTurns_long (hl : 112 < b.size) (hm : b.size ≤ maxLen) :
    Calls Try.prog 5 #[.agg #[.int .u32 E, .int .u32 I, .string b], .int .i64 bit] w fun e w' => e = .returned (.bool true) ∧ Below w.heap.size w w' := by
  go_enter Try.func5, Try.ntmps5
  go_wp2_with fail
  refine (pack_long E I b _ hl hm).mono ?_
  rintro e w1 ⟨rfl, hb1⟩
  have hB : Below w.heap.size w w1 := ((Below.refl _ _).alloc (Nat.le_refl _) _).trans (hb1.mono (by simp))
  go_wp2_with fail
  refine (awake_any _).mono ?_
  rintro e w2 ⟨rfl, hb2⟩
  go_wp2_with fail
  refine (awake_any _).mono ?_
  rintro e w3 ⟨rfl, hb3⟩
  go_wp2
  go_ret
  exact ⟨rfl, below2 (below2 hB hb2) hb3⟩

set_option maxRecDepth 100000 in
set_option maxHeartbeats 4000000 in
theorem slabTurns_rest (hE : E < 4294967296) (hI : I < 4294967296) (hl : b.size ≤ 112) (u k : Nat) (hu : IntKind.u64.wrap bit = (u : Int)) (hk : (u : Int) % 1024 = (k : Int)) (hlt : k < 1024) :
    Calls Try.prog 5 #[.agg #[.int .u32 E, .int .u32 I, .string b], .int .i64 bit] w fun e w' => e = .returned (.bool true) ∧ Below w.heap.size w w' := by
  have hps := packed_size (E := E) (I := I) hl
  have hpl : (packed E I b).data.toList.length = 128 := by rw [size_bytes]; exact hps
  have his := isSlab_packed hE hI hl
  go_enter Try.func5, Try.ntmps5
  go_wp2_with fail
  refine (pack_c E I b _ hE hI hl).mono ?_
  rintro e w1 ⟨rfl, hb1⟩
  have hB : Below w.heap.size w w1 := ((Below.refl _ _).alloc (Nat.le_refl _) _).trans (hb1.mono (by simp))
  clear hb1
  generalize packed E I b = s at *
  go_wp2_with fail
  refine (awake_any _).mono ?_
  rintro e w2 ⟨rfl, hb2⟩
  replace hB := below2 hB hb2
  clear hb2
  have hBs := hB.size
  obtain ⟨w3, cap, hcv, hb3, hby⟩ := str_bytes w2 s
  replace hB := below2 hB hb3
  rw [hps] at hcv
  have hIS := Lib.hid his
  have hPS := Lib.hid hps
  have hPL := Lib.hid hpl
  clear his hps hpl hb3
  go_wp2_with fail
  clear hcv hu hk
  refine' wp_region_conf 10 [.is _, .is _, .is _, .is _, .is _, .is _, .is _, .is _, .is _, .is _] (by kernel_rfl) (by kernel_rfl) (by kernel_rfl) (by kernel_rfl) rfl ?main
  case main =>
    iterate 4
      refine obs_is (fun w4 hE _ => ?_) ?_
      · go_wp2
        exact post_is (Below.refl _ _)
      simp only [Act.put, List.setIfInBounds_toArray, List.set_cons_zero, List.set_cons_succ]
    refine obs_is (fun w4 hE _ => ?_) ?_
    · have hc4 := (hby.keep (W' := w4) (by exact ⟨hE.os, hE.tape, hE.output, hE.size, hE.block⟩)).cell (k / 8) (by rw [hPL.out]; omega)
      go_wp2
      exact post_is (Below.refl _ _)
    simp only [Act.put, List.setIfInBounds_toArray, List.set_cons_zero, List.set_cons_succ]
    iterate 5
      refine obs_is (fun w4 hE _ => ?_) ?_
      · go_wp2
        exact post_is (Below.refl _ _)
      simp only [Act.put, List.setIfInBounds_toArray, List.set_cons_zero, List.set_cons_succ]
    refine obs_end fun w4 hE _ => ?_
    obtain ⟨m, hm⟩ : ∃ m : UInt8, m = UInt8.ofNat (2 ^ (k % 8)) := ⟨_, rfl⟩
    have hmn : ((2 : Int) ^ (k % 8) % 256) = (m.toNat : Int) := by rw [hm]; simp
    have hm0 : m ≠ 0 := by
      have h8 : ∀ j, j < 8 → UInt8.ofNat (2 ^ j) ≠ 0 := by decide
      rw [hm]
      exact h8 _ (Nat.mod_lt _ (by omega))
    have hxb : s.data[k / 8]?.getD 0 = s.data.toList.getD (k / 8) 0 := by simp [List.getD_eq_getElem?_getD]
    rw [hmn, hxb]
    have hby4 : Bytes w4 w2.heap.size s.data.toList := hby.keep (W' := w4) ⟨hE.os, hE.tape, hE.output, hE.size, hE.block⟩
    have hkl : k / 8 < s.data.toList.length := by rw [hPL.out]; omega
    have hc4 := hby4.cell (k / 8) hkl
    have hf4 := hby4.frozen (k / 8) hkl
    have hnot := Lib.hid (turned_not hIS.out (k / 8) (by omega) m hm0)
    have hset := hby4.set (k / 8) (s.data.toList.getD (k / 8) 0 ^^^ m)
    have hlen : Hid ((s.data.toList.set (k / 8) (s.data.toList.getD (k / 8) 0 ^^^ m)).length = 128) := by
      show _ = _
      rw [List.length_set, hPL.out]
    have hxor := u8_xor_nat (s.data.toList.getD (k / 8) 0).toNat m.toNat (UInt8.toNat_lt _) m.toNat_lt
    rw [UInt8.toNat_xor] at hset
    have hlt2 : w.heap.size ≤ w2.heap.size := hBs
    have hB4 : Below w.heap.size w (w4.setCell ⟨w2.heap.size, k / 8, none⟩ (.int .u8 (((s.data.toList.getD (k / 8) 0).toNat ^^^ m.toNat : Nat) : Int))) := (hB.drew.trans (hE.mono hB.size)).setCell hlt2 _
    generalize s.data.toList.set (k / 8) (s.data.toList.getD (k / 8) 0 ^^^ m) = l' at *
    generalize s.data.toList.getD (k / 8) 0 = x at *
    clear hm hm0 hmn hxb hby hby4 hIS hPS hPL hE hkl
    rw [hxor]
    clear hxor
    have hcv := bytes_str hset 128 cap hlen.out
    go_wp2_with fail
    refine (unpackNo_c _ _ hnot.out).mono ?_
    rintro e w5 ⟨rfl, hb5⟩
    clear hcv hc4 hf4
    go_wp2
    go_ret
    exact ⟨rfl, (below2 hB4 hb5).alloc (below2 hB4 hb5).size _⟩
end

theorem walkSlabTurns (E I : Nat) (b : ByteArray) (bit : Int) (w : World) (hE : E < 4294967296) (hI : I < 4294967296) (hb : b.size ≤ maxLen) (_ : (Lit.int .i64 bit).wf = true) :
    Calls Try.prog 5 #[.agg #[.int .u32 E, .int .u32 I, .string b], .int .i64 bit] w fun e w' => e = .returned (.bool true) ∧ Below w.heap.size w w' := by
  by_cases h : 112 < b.size
  · exact slabTurns_long E I b bit w h hb
  · obtain ⟨u, hu⟩ := wrap_u64 bit
    exact slabTurns_rest E I b bit w hE hI (by omega) u (u % 1024) hu (by simp) (Nat.mod_lt _ (by omega))
end Go.Proofs.Ytdhpghciegiikaa
