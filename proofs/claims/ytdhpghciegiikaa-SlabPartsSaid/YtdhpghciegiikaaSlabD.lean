/- The document's own packing (careenref01). -/
import Derived.Test.YtdhpghciegiikaaSlabC
import Derived.Test.YtdhpghciegiikaaRegion
namespace Go.Proofs.Ytdhpghciegiikaa
open Go.RowKit

theorem splice_app {α : Type} (p x q c : List α) (n : Nat) (hn : p.length = n) (h : x.length = c.length) : splice (p ++ x ++ q) n c = p ++ c ++ q := by
  subst hn
  unfold splice
  rw [List.append_assoc, List.take_left' rfl, ← List.append_assoc p x q, List.drop_left' (by simp [h]), ← List.append_assoc]
/-- The first 124 bytes of a slab's sector. -/
def front (E I : Nat) (s : ByteArray) : List UInt8 := be4 E ++ be4 I ++ [0, UInt8.ofNat s.size, 0, 0] ++ s.data.toList ++ List.replicate (112 - s.size) 0
theorem front_len (E I : Nat) (s : ByteArray) (h : s.size ≤ 112) : (front E I s).length = 124 := by
  unfold front
  simp only [List.length_append, be4_len, size_bytes, List.length_replicate, List.length_cons, List.length_nil]
  omega
theorem be4_size (n : Nat) (h : n ≤ 112) : be4 (n * 65536) = [0, UInt8.ofNat n, 0, 0] := by
  have e1 : UInt8.ofNat (n * 65536 / 16777216) = 0 := by rw [show n * 65536 / 16777216 = 0 from by omega]; rfl
  have e2 : n * 65536 / 65536 = n := by omega
  have e3 : UInt8.ofNat (n * 65536 / 256) = 0 := by
    apply UInt8.toNat_inj.1
    simp <;> omega
  have e4 : UInt8.ofNat (n * 65536) = 0 := by
    apply UInt8.toNat_inj.1
    simp <;> omega
  unfold be4
  rw [e1, e2, e3, e4]
theorem sect0_eq (E I : Nat) (s : ByteArray) (h : s.size ≤ 112) : sect0 E I s = front E I s ++ List.replicate 4 0 := by
  unfold sect0 front
  have r1 : List.replicate 128 (0 : UInt8) = [] ++ List.replicate 4 0 ++ (List.replicate 4 0 ++ (List.replicate 4 0 ++ (List.replicate s.size 0 ++ (List.replicate (112 - s.size) 0 ++ List.replicate 4 0)))) := by
    simp only [List.replicate_append_replicate, List.nil_append]
    congr 1
    omega
  have r2 : ∀ (p x q : List UInt8), p ++ (x ++ q) = p ++ x ++ q := fun p x q => (List.append_assoc _ _ _).symm
  rw [r1, splice_app [] _ _ (be4 E) 0 rfl (by simp [be4_len]), r2, splice_app _ _ _ (be4 I) 4 (by simp [be4_len]) (by simp [be4_len]), r2,
    splice_app _ _ _ (be4 (s.size * 65536)) 8 (by simp [be4_len]) (by simp [be4_len]), r2, splice_app _ _ _ s.data.toList 12 (by simp [be4_len]) (by simp), be4_size _ h]
  simp
theorem sect_eq (E I : Nat) (s : ByteArray) (h : s.size ≤ 112) : sect E I s = front E I s ++ le4 (Crc.sum (front E I s)) := by
  unfold sect
  rw [sect0_eq E I s h, List.take_left' (front_len E I s h)]
  have := splice_app (front E I s) (List.replicate 4 0) [] (le4 (Crc.sum (front E I s))) 124 (front_len E I s h) (by simp [le4_len])
  simpa using this

/-- How long the text in a slot is. -/
def strSize : Value → Nat
  | .string s => s.size
  | _ => 0

set_option maxRecDepth 100000 in
set_option maxHeartbeats 2000000 in
theorem refPack_any (E I : Nat) (s : ByteArray) (w : World) (hE : E < 4294967296) (hI : I < 4294967296) (hl : s.size ≤ 112) :
    Calls Try.prog 14 #[.agg #[.int .u32 E, .int .u32 I, .string s]] w fun e w' => e = .returned (.string ⟨(sect E I s).toArray⟩) ∧ Below w.heap.size w w' := by
  go_enter Try.func14, Try.ntmps14
  go_wp2
  have hb0 := Blk.new w 24 #[.int .u32 E, .int .u32 I, .string s]
  have hB0 : Below w.heap.size w (w.alloc (.cells #[.int .u32 E, .int .u32 I, .string s] 24)) := (Below.refl _ _).alloc (Nat.le_refl _) _
  generalize hg : w.heap.size = g at *
  have hG := Lib.hid hg
  clear hg
  generalize w.alloc (.cells #[.int .u32 E, .int .u32 I, .string s] 24) = w1 at *
  have e18 : #[Value.int .u8 0, .int .u8 s.size, .int .u8 0, .int .u8 0] = bytesV [0, UInt8.ofNat s.size, 0, 0] := by
    simp [bytesV]; omega
  have H18 := Lib.hid e18
  clear e18
  have hadd : ∀ W, (Op.stringOp .add (({ data := (be4 E).toArray } : ByteArray) ++ { data := (be4 I).toArray } ++ { data := #[0, UInt8.ofNat s.size, 0, 0] }) s).run Try.prog W = .ok (.string (({ data := (be4 E).toArray } : ByteArray) ++ { data := (be4 I).toArray } ++ { data := #[0, UInt8.ofNat s.size, 0, 0] } ++ s)) W := fun W =>
    run_string_add_sum W _ _ (by
      have e : (({ data := (be4 E).toArray } : ByteArray) ++ { data := (be4 I).toArray } ++ { data := #[0, UInt8.ofNat s.size, 0, 0] }).size = 12 := by rw [ByteArray.size_append, ByteArray.size_append]; rfl
      omega)
  refine' wp_region_conf 16 [.is _, .is _, .is _, .is _, .is _, .is _, .is _, .is _, .is _, .slice w1.heap.size 4 5 (bytesV [0, UInt8.ofNat s.size, 0, 0]), .is _, .is _, .is _, .is _, .is _, .is _] (by kernel_rfl) (by kernel_rfl) (by kernel_rfl) (by kernel_rfl) rfl ?main
  case main =>
    iterate 9
      refine obs_is (fun w2 hE2 _ => ?_) ?_
      · have hb2 := hb0.drew.keep hE2 hb0.lt
        have c0 := hb2.cellAt (i := 0) (by simp)
        have c1 := hb2.cellAt (i := 1) (by simp)
        simp at c0 c1
        clear hb2
        go_wp2_with (go_at_call 23; refine (four_any _ (by first | exact hE | exact hI) _).mono ?_; rintro e w3 ⟨rfl, hb3⟩)
        first | exact post_is hb3 | exact post_is (Below.refl _ _)
      simp only [Act.put, List.setIfInBounds_toArray, List.set_cons_zero, List.set_cons_succ]
    refine obs_slice (fun w2 hE2 _ => ?_) (fun x => ?_)
    · go_wp2
      exact ⟨_, rfl, ⟨w2.heap.size, hE2.size, rfl, by rw [← H18.out]; exact Blk.new _ _ _⟩, (Below.refl _ _).alloc (Nat.le_refl _) _⟩
    simp only [Act.put, List.setIfInBounds_toArray, List.set_cons_zero, List.set_cons_succ]
    refine obs_is (fun w2 hE2 hk => ?_) ?_
    · obtain ⟨g2, hg2, rfl, hb2⟩ := hk _ (List.mem_cons_self) (by kernel_rfl)
      have hc := conv_blk hb2 0 4 4 (by simp) 37 5 9 Try.underlying37 Try.underlying5 Try.underlying9
      clear hk
      go_wp2
      exact post_is (Below.refl _ _)
    simp only [Act.put, List.setIfInBounds_toArray, List.set_cons_zero, List.set_cons_succ]
    iterate 5
      refine obs_is (fun w2 hE2 _ => ?_) ?_
      · have hb2 := hb0.drew.keep hE2 hb0.lt
        have c2 := hb2.cellAt (i := 2) (by simp)
        simp at c2
        clear hb2
        go_wp2
        exact post_is (Below.refl _ _)
      simp only [Act.put, List.setIfInBounds_toArray, List.set_cons_zero, List.set_cons_succ]
    refine obs_end fun w3 hE3 _ => ?_
    have hB3 : Below w.heap.size w w3 := by rw [hG.out]; exact hB0.drew.trans (hE3.mono (by rw [← hG.out]; exact hB0.size))
    clear hb0 hB0 hE3 H18 hadd
    have hdat : (({ data := (be4 E).toArray } : ByteArray) ++ { data := (be4 I).toArray } ++ { data := #[0, UInt8.ofNat s.size, 0, 0] } ++ s).data.toList = be4 E ++ be4 I ++ [0, UInt8.ofNat s.size, 0, 0] ++ s.data.toList := by
      simp only [ByteArray.data_append, Array.toList_append]
    generalize (({ data := (be4 E).toArray } : ByteArray) ++ { data := (be4 I).toArray } ++ { data := #[0, UInt8.ofNat s.size, 0, 0] } ++ s) = base at *
    have HD := Lib.hid hdat
    clear hdat
    go_wp2
    go_loop [4] (fun x => ∃ (k : Nat) (t : ByteArray), k ≤ 112 - s.size ∧ x = .string t ∧ Hid (t.data.toList = base.data.toList ++ List.replicate k 0)) (fun x => 124 - strSize x)
    case atStart => exact ⟨0, base, by omega, rfl, by show _ = _; simp⟩
    case round =>
      obtain ⟨k, t, hk, rfl, ht⟩ := hrel
      have hts : t.size = 12 + s.size + k := by
        rw [← size_bytes, ht.out, HD.out]
        simp [be4_len]
        omega
      by_cases hlt : k < 112 - s.size
      · have h1 : (t.size : Int) < 124 := by omega
        have hTS := Lib.hid hts
        clear hts
        have hadd : ∀ W, (Op.stringOp .add t { data := #[0] }).run Try.prog W = .ok (.string (t ++ { data := #[0] })) W := fun W =>
          run_string_add_sum W _ _ (by have e : ({ data := #[0] } : ByteArray).size = 1 := rfl; omega)
        go_wp2
        go_round
        case rel => exact ⟨k + 1, _, by omega, rfl, by
          show _ = _
          rw [ByteArray.data_append, Array.toList_append, ht.out, List.append_assoc, List.replicate_succ']⟩
        case measure =>
          have e : (t ++ { data := #[0] }).size = t.size + 1 := by rw [ByteArray.size_append]; rfl
          simp only [strSize, e]
          omega
      · have h1 : ¬ (t.size : Int) < 124 := by omega
        have hm : t.size ≤ maxLen := by unfold maxLen; omega
        have hadd : ∀ W c, (Op.stringOp .add t { data := (le4 c).toArray }).run Try.prog W = .ok (.string (t ++ { data := (le4 c).toArray })) W := fun W c =>
          run_string_add_sum W _ _ (by have e : ({ data := (le4 c).toArray } : ByteArray).size = 4 := rfl; omega)
        have htf : Hid (t.data.toList = front E I s) := by
          show _ = _
          rw [ht.out, HD.out, show k = 112 - s.size from by omega]
          rfl
        clear hts ht
        have hcl := Crc.sum_lt t.data.toList
        go_wp2_with fail
        refine (refSum_any t _ hm).mono ?_
        rintro e w4 ⟨rfl, hb4⟩
        have hfin := sect_eq E I s hl
        rw [← htf.out] at hfin
        have HF := Lib.hid hfin
        clear hfin
        generalize Crc.sum t.data.toList = c at *
        have hc := conv4 w4 c (c / 256) (c / 65536) (c / 16777216) ((c : Int) % 256) ((c : Int) / 256 % 256) ((c : Int) / 65536 % 256) ((c : Int) / 16777216) (by omega) (by omega) (by omega) (by omega)
        rw [show [UInt8.ofNat c, UInt8.ofNat (c / 256), UInt8.ofNat (c / 65536), UInt8.ofNat (c / 16777216)] = le4 c from rfl] at hc
        go_wp2
        go_ret
        refine ⟨?_, (below2 hB3 hb4).trans ((Below.refl _ _).alloc (below2 hB3 hb4).size _)⟩
        show Ending.returned (.string (t ++ { data := (le4 c).toArray })) = _
        congr 2
        apply str_ext
        rw [HF.out, ByteArray.data_append, Array.toList_append]
end Go.Proofs.Ytdhpghciegiikaa
