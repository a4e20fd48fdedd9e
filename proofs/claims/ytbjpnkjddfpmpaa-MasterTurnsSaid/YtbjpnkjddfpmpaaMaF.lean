/- Package master: what a sector tells (find). -/
import Derived.Test.YtbjpnkjddfpmpaaMaE
namespace Go.Proofs.Ytbjpnkjddfpmpaa
open Go.RowKit

def foundV : Option (Nat × Ms) → Value
  | none => .tuple #[.agg #[.int .i64 0, .int .i64 0], .int .u32 0, .bool false]
  | some x => .tuple #[.agg #[.int .i64 x.2.check, .int .i64 x.2.low], .int .u32 x.1, .bool true]
theorem results_ctt12 {P : Program} {fn : Func} {p u v : Tmp} {ty : TypeId} (h : fn.results = #[.cell p ty, .tmp u, .tmp v]) (tmps : Array Value) (w : World) (g : Nat) (t : TypeId) (cs : Array Value) (d : TypeDesc)
    (hp : tmps.getD p undef = .pointer (some ⟨g, 0, none⟩)) (hg : Blk w g t cs)
    (hu : P.underlying ty = some d) (hd : (match d with | .struct _ | .array _ _ => true | _ => false) = true) (hi : (P.info? ty).map (·.size) = some cs.size) :
    (results fn tmps).run P w = .ok (.tuple #[.agg cs, tmps.getD u undef, tmps.getD v undef]) w := by
  have hp' : tmps[p]?.getD undef = .pointer (some ⟨g, 0, none⟩) := by simpa using hp
  simp [results, h, hp', asAddr, run_loadVar_row w g t ty cs (0, 0) d hg hu hd hi]
theorem setRow_same12 {w : World} {g t : Nat} {cs : Array Value} (h : Blk w g t cs) : Below w.heap.size w (w.setRow g cs) := by
  have hb := h.setRow cs
  refine ⟨rfl, rfl, rfl, by simp [World.setRow], fun b _ => ?_⟩
  by_cases e : b = g
  · subst e; exact hb.trans h.symm
  · exact setRow_other w g b cs e
section
variable {w : World} {F : Foot} {g : Nat} {D : Dk}
set_option maxRecDepth 100000 in
set_option maxHeartbeats 4000000 in
theorem maFind_torn (h : IsDisk w F g D) (i : Int) (hr : D.reachE i = 0) (hs : ¬ IsSlab (D.at_ i)) :
    Calls Try.prog 21 #[.pointer (some ⟨g, 0, none⟩), .int .i64 i] w fun e w' => e = .returned (foundV none) ∧ Below w.heap.size w w' := by
  have HR : Hid (∀ W, Below w.heap.size w W → _) := fun W hW => read_ok (h.below hW) i hr (D.at_ i) rfl
  have HU := Lib.hid (fun W => unpackNo_c (D.at_ i) W hs)
  clear h hr hs
  generalize D.at_ i = s at *
  have R0 := Blk.new w 30 #[.int .i64 0, .int .i64 0]
  have B0 := (Below.refl w.heap.size w).alloc (Nat.le_refl _) (.cells #[.int .i64 0, .int .i64 0] 30)
  go_enter Try.func21, Try.ntmps21
  go_wp2_with fail
  refine (HR.out _ B0).mono ?_
  rintro e w1 ⟨rfl, hb1⟩
  go_wp2_with fail
  refine (HU.out _).mono ?_
  rintro e w2 ⟨rfl, hb2⟩
  have B2 := Lib.hid (below2 (below2 B0 hb1) hb2)
  have R2 := Lib.hid ((R0.keep (below2 hb1 hb2) R0.lt))
  have z2 : Hid (w.heap.size < w2.heap.size) := by have := R2.out.lt; exact this
  clear R0 B0 hb1 hb2 HR HU
  go_upto_region 5 with fail
  have B4 := Lib.hid ((B2.out.alloc B2.out.size (.cells #[.int .u32 0, .int .u32 0, .string ⟨#[]⟩] 65)).alloc (by have := B2.out.size; simp; omega) (.cells #[.int .u8 0, .int .u8 0, .int .u8 0, .int .u8 0, .int .u8 0, .int .u8 0, .int .u8 0, .int .u8 0] 61))
  have R4 := ((R2.out.alloc (.cells #[.int .u32 0, .int .u32 0, .string ⟨#[]⟩] 65)).alloc (.cells #[.int .u8 0, .int .u8 0, .int .u8 0, .int .u8 0, .int .u8 0, .int .u8 0, .int .u8 0, .int .u8 0] 61))
  clear B2 R2 z2
  generalize ((w2.alloc (.cells #[.int .u32 0, .int .u32 0, .string ⟨#[]⟩] 65)).alloc (.cells #[.int .u8 0, .int .u8 0, .int .u8 0, .int .u8 0, .int .u8 0, .int .u8 0, .int .u8 0, .int .u8 0] 61)) = w4 at *
  go_wp2_with (refine wpList_store_row rfl 30 _ _ rfl w.heap.size _ rfl rfl 30 _ R4 (by kernel_rfl) (by simp) (by simp [Value.oneCell']) ?_)
  exact bodyPost_ret (results_ctt12 rfl _ _ w.heap.size 30 _ _ rfl (R4.setRow _) Try.underlying30 rfl (by kernel_rfl)) rfl ⟨rfl, below_setRow B4.out (Nat.le_refl _) _⟩
set_option maxRecDepth 100000 in
set_option maxHeartbeats 4000000 in
theorem maFind_index (h : IsDisk w F g D) (i : Int) (hr : D.reachE i = 0) (hs : IsSlab (D.at_ i)) (hi : partI (D.at_ i) ≠ 0 ∨ (partB (D.at_ i)).size ≠ 8) :
    Calls Try.prog 21 #[.pointer (some ⟨g, 0, none⟩), .int .i64 i] w fun e w' => e = .returned (foundV none) ∧ Below w.heap.size w w' := by
  have HR : Hid (∀ W, Below w.heap.size w W → _) := fun W hW => read_ok (h.below hW) i hr (D.at_ i) rfl
  have HU := Lib.hid (fun W => unpackYes_c (D.at_ i) W hs)
  have hz : (((partB (D.at_ i)).size : Nat) : Int) ≤ 112 := by have := partB_size hs; omega
  clear h hr hs
  generalize D.at_ i = s at *
  generalize partE s = E at *
  generalize partB s = bd at *
  generalize partI s = I at *
  have R0 := Blk.new w 30 #[.int .i64 0, .int .i64 0]
  have B0 := (Below.refl w.heap.size w).alloc (Nat.le_refl _) (.cells #[.int .i64 0, .int .i64 0] 30)
  go_enter Try.func21, Try.ntmps21
  go_wp2_with fail
  refine (HR.out _ B0).mono ?_
  rintro e w1 ⟨rfl, hb1⟩
  go_wp2_with fail
  refine (HU.out _).mono ?_
  rintro e w2 ⟨rfl, hb2⟩
  have B2 := Lib.hid (below2 (below2 B0 hb1) hb2)
  have R2 := Lib.hid ((R0.keep (below2 hb1 hb2) R0.lt))
  clear R0 B0 hb1 hb2 HR HU
  go_upto_region 4 with fail
  have B4 := Lib.hid ((B2.out.alloc B2.out.size (.cells #[.int .u32 E, .int .u32 I, .string bd] 65)).alloc (by have := B2.out.size; simp; omega) (.cells #[.int .u8 0, .int .u8 0, .int .u8 0, .int .u8 0, .int .u8 0, .int .u8 0, .int .u8 0, .int .u8 0] 61))
  have R4 := ((R2.out.alloc (.cells #[.int .u32 E, .int .u32 I, .string bd] 65)).alloc (.cells #[.int .u8 0, .int .u8 0, .int .u8 0, .int .u8 0, .int .u8 0, .int .u8 0, .int .u8 0, .int .u8 0] 61))
  have X4 := (Blk.new w2 65 #[.int .u32 E, .int .u32 I, .string bd]).alloc (.cells #[.int .u8 0, .int .u8 0, .int .u8 0, .int .u8 0, .int .u8 0, .int .u8 0, .int .u8 0, .int .u8 0] 61)
  clear B2 R2
  generalize ((w2.alloc (.cells #[.int .u32 E, .int .u32 I, .string bd] 65)).alloc (.cells #[.int .u8 0, .int .u8 0, .int .u8 0, .int .u8 0, .int .u8 0, .int .u8 0, .int .u8 0, .int .u8 0] 61)) = w4 at *
  have q1 : w4.cell? ⟨w2.heap.size, 1, none⟩ = some (.int .u32 I) := X4.cell 1
  have q2 : w4.cell? ⟨w2.heap.size, 2, none⟩ = some (.string bd) := X4.cell 2
  clear X4
  by_cases hi0 : I = 0
  · subst hi0
    have hne : (((bd.size : Nat) : Int) != 8) = true := by simpa using (show ¬ (((bd.size : Nat) : Int) = 8) by omega)
    clear hi
    go_wp2_with (refine wpList_store_row rfl 30 _ _ rfl w.heap.size _ rfl rfl 30 _ R4 (by kernel_rfl) (by simp) (by simp [Value.oneCell']) ?_)
    exact bodyPost_ret (results_ctt12 rfl _ _ w.heap.size 30 _ _ rfl (R4.setRow _) Try.underlying30 rfl (by kernel_rfl)) rfl ⟨rfl, below_setRow B4.out (Nat.le_refl _) _⟩
  · have hne : (((I : Nat) : Int) != 0) = true := by simpa using hi0
    clear hi hi0
    go_wp2_with (refine wpList_store_row rfl 30 _ _ rfl w.heap.size _ rfl rfl 30 _ R4 (by kernel_rfl) (by simp) (by simp [Value.oneCell']) ?_)
    exact bodyPost_ret (results_ctt12 rfl _ _ w.heap.size 30 _ _ rfl (R4.setRow _) Try.underlying30 rfl (by kernel_rfl)) rfl ⟨rfl, below_setRow B4.out (Nat.le_refl _) _⟩
theorem eight {b : ByteArray} (h : b.size = 8) : ∃ b0 b1 b2 b3 b4 b5 b6 b7, b = ⟨#[b0, b1, b2, b3, b4, b5, b6, b7]⟩ := by
  have hl : b.data.toList.length = 8 := by rw [size_bytes]; exact h
  match e : b.data.toList, hl with
  | [b0, b1, b2, b3, b4, b5, b6, b7], _ => exact ⟨b0, b1, b2, b3, b4, b5, b6, b7, str_ext (by rw [e])⟩
theorem tell8 (b0 b1 b2 b3 b4 b5 b6 b7 : UInt8) : tellM ⟨#[b0, b1, b2, b3, b4, b5, b6, b7]⟩ = ⟨num4 [b0, b1, b2, b3], num4 [b4, b5, b6, b7]⟩ := rfl
set_option maxRecDepth 100000 in
set_option maxHeartbeats 8000000 in
theorem maFind_eight (h : IsDisk w F g D) (i : Int) (hr : D.reachE i = 0) (hs : IsSlab (D.at_ i)) (hi : partI (D.at_ i) = 0) (h8 : (partB (D.at_ i)).size = 8) (r : Option (Nat × Ms)) (hres : r = if (tellM (partB (D.at_ i))).May then some (partE (D.at_ i), tellM (partB (D.at_ i))) else none) :
    Calls Try.prog 21 #[.pointer (some ⟨g, 0, none⟩), .int .i64 i] w fun e w' => e = .returned (foundV r) ∧ Below w.heap.size w w' := by
  have HR : Hid (∀ W, Below w.heap.size w W → _) := fun W hW => read_ok (h.below hW) i hr (D.at_ i) rfl
  have HU := Lib.hid (fun W => unpackYes_c (D.at_ i) W hs)
  rw [hi] at HU
  clear h hr hs hi
  generalize D.at_ i = s at *
  generalize partE s = E at *
  obtain ⟨b0, b1, b2, b3, b4, b5, b6, b7, e8⟩ := eight h8
  rw [e8] at HU
  rw [e8, tell8] at hres
  clear e8 h8
  have HM := Lib.hid (fun W => maMaster_any b0 b1 b2 b3 b4 b5 b6 b7 W)
  generalize num4 [b0, b1, b2, b3] = c at *
  generalize num4 [b4, b5, b6, b7] = l at *
  have hsz : (⟨#[b0, b1, b2, b3, b4, b5, b6, b7]⟩ : ByteArray).size = 8 := rfl
  have hne : ((((⟨#[b0, b1, b2, b3, b4, b5, b6, b7]⟩ : ByteArray).size : Nat) : Int) != 8) = false := rfl
  have hdl : Hid ((⟨#[b0, b1, b2, b3, b4, b5, b6, b7]⟩ : ByteArray).data.toList = [b0, b1, b2, b3, b4, b5, b6, b7]) := rfl
  generalize (⟨#[b0, b1, b2, b3, b4, b5, b6, b7]⟩ : ByteArray) = bd at *
  have HS := Lib.hid hsz
  clear hsz
  have HC := Lib.hid (fun W y hy => maRight_any c l W y hy)
  have HRES := Lib.hid hres
  clear hres
  have R0 := Blk.new w 30 #[.int .i64 0, .int .i64 0]
  have B0 := (Below.refl w.heap.size w).alloc (Nat.le_refl _) (.cells #[.int .i64 0, .int .i64 0] 30)
  go_enter Try.func21, Try.ntmps21
  go_wp2_with fail
  refine (HR.out _ B0).mono ?_
  rintro e w1 ⟨rfl, hb1⟩
  go_wp2_with fail
  refine (HU.out _).mono ?_
  rintro e w2 ⟨rfl, hb2⟩
  have B2 := Lib.hid (below2 (below2 B0 hb1) hb2)
  have R2 := Lib.hid ((R0.keep (below2 hb1 hb2) R0.lt))
  clear R0 B0 hb1 hb2 HR HU
  go_upto_region 4 with fail
  have z2 : w.heap.size < w2.heap.size := R2.out.lt
  have B4 := Lib.hid ((B2.out.alloc B2.out.size (.cells #[.int .u32 E, .int .u32 0, .string bd] 65)).alloc (by have := B2.out.size; simp; omega) (.cells #[.int .u8 0, .int .u8 0, .int .u8 0, .int .u8 0, .int .u8 0, .int .u8 0, .int .u8 0, .int .u8 0] 61))
  have R4 := ((R2.out.alloc (.cells #[.int .u32 E, .int .u32 0, .string bd] 65)).alloc (.cells #[.int .u8 0, .int .u8 0, .int .u8 0, .int .u8 0, .int .u8 0, .int .u8 0, .int .u8 0, .int .u8 0] 61))
  have X4 := (Blk.new w2 65 #[.int .u32 E, .int .u32 0, .string bd]).alloc (.cells #[.int .u8 0, .int .u8 0, .int .u8 0, .int .u8 0, .int .u8 0, .int .u8 0, .int .u8 0, .int .u8 0] 61)
  have P4 : Blk ((w2.alloc (.cells #[.int .u32 E, .int .u32 0, .string bd] 65)).alloc (.cells #[.int .u8 0, .int .u8 0, .int .u8 0, .int .u8 0, .int .u8 0, .int .u8 0, .int .u8 0, .int .u8 0] 61)) (w2.heap.size + 1) 61 (bytesV [0, 0, 0, 0, 0, 0, 0, 0]) := by
    have h := Blk.new (w2.alloc (.cells #[.int .u32 E, .int .u32 0, .string bd] 65)) 61 (bytesV [0, 0, 0, 0, 0, 0, 0, 0])
    simp only [World.size_alloc] at h
    exact h
  clear B2 R2
  generalize ((w2.alloc (.cells #[.int .u32 E, .int .u32 0, .string bd] 65)).alloc (.cells #[.int .u8 0, .int .u8 0, .int .u8 0, .int .u8 0, .int .u8 0, .int .u8 0, .int .u8 0, .int .u8 0] 61)) = w4 at *
  have q1 : w4.cell? ⟨w2.heap.size, 1, none⟩ = some (.int .u32 0) := X4.cell 1
  have q2 : w4.cell? ⟨w2.heap.size, 2, none⟩ = some (.string bd) := X4.cell 2
  have HX4 := Lib.hid X4
  have HP4 := Lib.hid P4
  have HR4 := Lib.hid R4
  clear X4 P4 R4
  go_upto_region 6 with fail
  go_still_tail 3, (by kernel_rfl)
  change wpList _ _ _ _ _ w4.drew
  have X5 : Blk w4.drew w2.heap.size 65 #[.int .u32 E, .int .u32 0, .string bd] := HX4.out
  have P5 : Blk w4.drew (w2.heap.size + 1) 61 (bytesV [0, 0, 0, 0, 0, 0, 0, 0]) := HP4.out
  have R5 : Blk w4.drew w.heap.size 30 #[.int .i64 0, .int .i64 0] := HR4.out
  have B5 := B4.out.drew
  clear HX4 HP4 HR4 B4 q1 q2
  generalize w4.drew = w5 at *
  have hcp := Lib.run_copy_row_string (P := Try.prog) w5 32 9 3 5 (w2.heap.size + 1) 0 8 8 bd _ 61 Try.underlying32 info_u8 P5 (by rw [HS.out]; exact Nat.le_refl 8) (by rw [bytesV_size, HS.out]; exact Nat.le_refl 8)
  rw [← size_bytes bd, bytesV_splice, size_bytes bd, hdl.out, HS.out] at hcp
  have hw : Hid (splice [0, 0, 0, 0, 0, 0, 0, 0] 0 [b0, b1, b2, b3, b4, b5, b6, b7] = [b0, b1, b2, b3, b4, b5, b6, b7]) := rfl
  rw [hw.out] at hcp
  go_upto_region 7 with fail
  have X6 := Lib.hid (X5.farRow (show w2.heap.size ≠ w2.heap.size + 1 by omega) (bytesV [b0, b1, b2, b3, b4, b5, b6, b7]))
  have P6 := P5.setRow (bytesV [b0, b1, b2, b3, b4, b5, b6, b7])
  have R6 := Lib.hid (R5.farRow (show w.heap.size ≠ w2.heap.size + 1 by omega) (bytesV [b0, b1, b2, b3, b4, b5, b6, b7]))
  have B6 := Lib.hid (below_setRow B5 (show w.heap.size ≤ w2.heap.size + 1 by omega) (bytesV [b0, b1, b2, b3, b4, b5, b6, b7]))
  clear X5 P5 R5 B5 hcp hw
  generalize w5.setRow _ _ = w6 at *
  go_wp2_with (refine wpList_load_row rfl 61 _ rfl (w2.heap.size + 1) rfl 61 _ (0, 0) _ P6 Try.underlying61 rfl (by kernel_rfl) ?_)
  refine (HM.out _).mono ?_
  rintro e w7 ⟨rfl, hb7⟩
  have X7 := X6.out.keep hb7 X6.out.lt
  have R7 := R6.out.keep hb7 R6.out.lt
  have B7 := below2 B6.out hb7
  have X8 := Lib.hid (X7.farRow (show w2.heap.size ≠ w.heap.size by omega) #[.int .i64 c, .int .i64 l])
  have R8 := R7.setRow #[.int .i64 c, .int .i64 l]
  have B8 := Lib.hid (below_setRow B7 (Nat.le_refl _) #[.int .i64 c, .int .i64 l])
  clear X6 R6 B6 hb7 P6 X7 B7 HM
  go_wp2_with (first
    | (refine wpList_store_row rfl 30 _ _ rfl w.heap.size _ rfl rfl 30 _ R7 (by kernel_rfl) (by simp) (by simp [Value.oneCell']) ?_)
    | (refine wpList_load_row rfl 30 _ rfl w.heap.size rfl 30 _ (0, 0) _ R8 Try.underlying30 rfl (by kernel_rfl) ?_))
  clear R7
  generalize w7.setRow _ _ = w8 at *
  by_cases hm : Ms.May ⟨c, l⟩
  · have HRE := HRES.out
    rw [if_pos hm] at HRE
    subst HRE
    refine (HC.out _ true (by simp [hm])).mono ?_
    rintro e w9 ⟨rfl, hb9⟩
    have X9 := X8.out.keep hb9 X8.out.lt
    have R9 := Lib.hid (R8.keep hb9 R8.lt)
    have B9 := Lib.hid (below2 B8.out hb9)
    have q0 : w9.cell? ⟨w2.heap.size, 0, none⟩ = some (.int .u32 E) := X9.cell 0
    clear X8 X9 R8 B8 hb9 HC HRES
    go_upto_region 10 with fail
    have HQ : Hid (∀ W, Below w9.drew.heap.size w9.drew W → Blk W w.heap.size 30 #[.int .i64 c, .int .i64 l] ∧ W.cell? ⟨w2.heap.size, 0, none⟩ = some (.int .u32 E)) := fun W hW => ⟨R9.out.drew.keep hW R9.out.lt, (hW.cell (p := ⟨w2.heap.size, 0, none⟩) (World.block_lt_of_cell? w9 _ q0)).trans q0⟩
    clear q0
    refine' wp_region_conf 4 [.is _, .is _, .is _, .is undef] (by kernel_rfl) (by kernel_rfl) (by kernel_rfl) (by kernel_rfl) rfl ?main
    case main =>
      iterate 3
        refine obs_is (fun w3 hE2 _ => ?_) ?_
        · obtain ⟨q1, q2⟩ := HQ.out w3 hE2
          go_wp2_with (refine wpList_load_row rfl 30 _ rfl w.heap.size rfl 30 _ (0, 0) _ q1 Try.underlying30 rfl (by kernel_rfl) ?_)
          exact post_is (Below.refl _ _)
        simp only [Act.put, List.setIfInBounds_toArray, List.set_cons_zero, List.set_cons_succ]
      refine obs_is (fun w3 hE2 _ => ?_) ?_
      · obtain ⟨q1, q2⟩ := HQ.out w3 hE2
        go_wp2_with (refine wpList_store_row rfl 30 _ _ rfl w.heap.size _ rfl rfl 30 _ q1 (by kernel_rfl) (by simp) (by simp [Value.oneCell']) ?_)
        exact post_is (setRow_same12 q1)
      simp only [Act.put]
      refine obs_end fun w3 hE3 _ => ?_
      have p1 := (HQ.out w3 hE3).1
      have B3 := Lib.hid (below2 B9.out.drew hE3)
      clear hE3 HQ R9 B9
      change wpList _ _ _ _ _ _
      go_wp2
      exact bodyPost_ret (results_ctt12 rfl _ _ w.heap.size 30 _ _ rfl p1 Try.underlying30 rfl (by kernel_rfl)) rfl ⟨rfl, B3.out⟩
  · have HRE := HRES.out
    rw [if_neg hm] at HRE
    subst HRE
    refine (HC.out _ false (by simp [hm])).mono ?_
    rintro e w9 ⟨rfl, hb9⟩
    have R9 := R8.keep hb9 R8.lt
    have B9 := Lib.hid (below2 B8.out hb9)
    clear X8 R8 B8 hb9 HC HRES
    go_wp2_with (refine wpList_store_row rfl 30 _ _ rfl w.heap.size _ rfl rfl 30 _ R9 (by kernel_rfl) (by simp) (by simp [Value.oneCell']) ?_)
    exact bodyPost_ret (results_ctt12 rfl _ _ w.heap.size 30 _ _ rfl (R9.setRow _) Try.underlying30 rfl (by kernel_rfl)) rfl ⟨rfl, below_setRow B9.out (Nat.le_refl _) _⟩
theorem maFind_any (h : IsDisk w F g D) (i : Int) (hr : D.reachE i = 0) :
    Calls Try.prog 21 #[.pointer (some ⟨g, 0, none⟩), .int .i64 i] w fun e w' => e = .returned (foundV (cdM.dec (D.at_ i))) ∧ Below w.heap.size w w' := by
  by_cases hs : IsSlab (D.at_ i)
  · by_cases hi : partI (D.at_ i) = 0
    · by_cases h8 : (partB (D.at_ i)).size = 8
      · refine maFind_eight h i hr hs hi h8 _ ?_
        by_cases hm : (tellM (partB (D.at_ i))).May
        · rw [if_pos hm, decM_yes hs hi h8 hm]
        · rw [if_neg hm, decM_may hm]
      · rw [decM_size h8]; exact maFind_index h i hr hs (.inr h8)
    · rw [decM_index hi]; exact maFind_index h i hr hs (.inl hi)
  · rw [decM_slab hs]; exact maFind_torn h i hr hs
end
end Go.Proofs.Ytbjpnkjddfpmpaa
