/- The document's own Pack and Unpack of pages (careenref06); both Packs and both Unpacks as one answer each. -/
import Derived.Test.YtjnnkbbgeckgkaaPgG
import Derived.Test.YtjnnkbbgeckgkaaFour
import Derived.Test.YtjnnkbbgeckgkaaNumb
import Derived.Test.YtjnnkbbgeckgkaaRegion
namespace Go.Proofs.Ytjnnkbbgeckgkaa
open Go.RowKit

set_option maxRecDepth 100000 in
set_option maxHeartbeats 4000000 in
theorem refPack_ok (A : Nat) (d : ByteArray) (w : World) (hA : A ≤ 2147483647) (hd : d.size = 220) : Calls Try.prog 21 #[.agg #[.int .i64 A, .string d]] w fun e w' => e = .returned (.string (packS A d)) ∧ Below w.heap.size w w' := by
  have hp : Hid ((⟨(be4 A).toArray⟩ : ByteArray) ++ d = packS A d) := by
    show _ = _
    apply str_ext
    rw [packS_data]
    simp [ByteArray.data_append]
  have hadd : ∀ W, (Op.stringOp .add (⟨(be4 A).toArray⟩ : ByteArray) d).run Try.prog W = .ok (.string ((⟨(be4 A).toArray⟩ : ByteArray) ++ d)) W := fun W => run_string_add_sum W _ _ (by rw [hd]; show 4 + 220 ≤ _; omega)
  have F := Lib.hid (fun W => four_any A (by omega) W)
  have ha : (A : Int) < 4294967296 := by omega
  generalize (⟨(be4 A).toArray⟩ : ByteArray) = b4 at *
  have X0 := Blk.new w 23 #[.int .i64 A, .string d]
  have hB := (Below.refl w.heap.size w).alloc (Nat.le_refl _) (.cells #[.int .i64 A, .string d] 23)
  go_enter Try.func21, Try.ntmps21
  go_wp2_with fail
  generalize hg : w.heap.size = g at *
  have hG := Lib.hid hg
  clear hg
  generalize (w.alloc (.cells #[.int .i64 A, .string d] 23)) = w1 at *
  refine' wp_region_conf 7 [.is _, .is _, .is _, .is _, .is _, .is _, .is _] (by kernel_rfl) (by kernel_rfl) (by kernel_rfl) (by kernel_rfl) rfl ?main
  case main =>
    iterate 7
      refine obs_is (fun w2 hE2 _ => ?_) ?_
      · have hb2 := X0.drew.keep hE2 X0.lt
        have c0 := hb2.cellAt (i := 0) (by simp)
        have c1 := hb2.cellAt (i := 1) (by simp)
        simp at c0 c1
        clear hb2
        go_wp2_with (go_at_call 31; refine (F.out _).mono ?_; rintro e w3 ⟨rfl, hb3⟩)
        first | exact post_is hb3 | exact post_is (Below.refl _ _)
      simp only [Act.put, List.setIfInBounds_toArray, List.set_cons_zero, List.set_cons_succ]
    refine obs_end fun w3 hE3 _ => ?_
    have hB3 : Below g w w3 := hB.drew.trans (hE3.mono (by have := hB.size; rw [hG.out] at this; exact this))
    clear hadd X0 hB hE3 F
    go_wp2
    go_ret
    refine ⟨?_, by rw [hG.out]; exact hB3⟩
    rw [hp.out]
    rfl

set_option maxRecDepth 100000 in
set_option maxHeartbeats 4000000 in
theorem refUnpack_size (s : ByteArray) (w : World) (h : s.size ≠ 224) : Calls Try.prog 19 #[.string s] w fun e w' => e = .returned (.tuple #[.agg #[.int .i64 0, .string ⟨#[]⟩], .bool false]) ∧ Below w.heap.size w w' := by
  have h1 : ((s.size : Int) != 224) = true := by simp; omega
  have R0 := Blk.new w 23 #[.int .i64 0, .string ⟨#[]⟩]
  have hB := (Below.refl w.heap.size w).alloc (Nat.le_refl _) (.cells #[.int .i64 0, .string ⟨#[]⟩] 23)
  go_enter Try.func19, Try.ntmps19
  go_wp2_with (refine wpList_store_row rfl 23 _ _ rfl w.heap.size _ rfl rfl 23 _ R0 (by kernel_rfl) (by simp) (by simp [Value.oneCell']) ?_)
  exact bodyPost_ret (results_row_tmp rfl _ _ w.heap.size 23 _ _ rfl (R0.setRow _) Try.underlying23 rfl (by kernel_rfl)) rfl ⟨rfl, below_setRow hB (Nat.le_refl _) _⟩

set_option maxRecDepth 100000 in
set_option maxHeartbeats 4000000 in
theorem refUnpack_rest (s : ByteArray) (w : World) (h : s.size = 224) (yes : Bool) (hy : yes = decide (num4 s.data.toList ≤ 2147483647)) : Calls Try.prog 19 #[.string s] w fun e w' => e = .returned (.tuple (if yes then #[.agg #[.int .i64 (num4 s.data.toList : Nat), .string (s.extract 4 s.size)], .bool true] else #[.agg #[.int .i64 0, .string ⟨#[]⟩], .bool false])) ∧ Below w.heap.size w w' := by
  have h1 : ((s.size : Int) != 224) = false := by simp [h]
  have P := Lib.hid (fun W => refRight_any (num4 s.data.toList : Nat) (s.extract 4 s.size) W yes (by
    rw [hy, decide_eq_decide]
    unfold PgOk Num
    rw [ByteArray.size_extract]
    constructor
    · intro h2; omega
    · rintro ⟨⟨_, h3⟩, _⟩; omega))
  have M := Lib.hid (fun W => number_any s W (by omega))
  have hlt : (num4 s.data.toList : Int) < 4294967296 := by
    unfold num4
    have a := (s.data.toList.getD 0 0).toNat_lt
    have b := (s.data.toList.getD 1 0).toNat_lt
    have c := (s.data.toList.getD 2 0).toNat_lt
    have d := (s.data.toList.getD 3 0).toNat_lt
    omega
  have hsl := slice_from (P := Try.prog) 9 Try.underlying9 s 4 .i64 4 (by omega) (by omega)
  clear hy
  generalize num4 s.data.toList = n at *
  generalize s.extract 4 s.size = b at *
  have R0 := Blk.new w 23 #[.int .i64 0, .string ⟨#[]⟩]
  have hB := (Below.refl w.heap.size w).alloc (Nat.le_refl _) (.cells #[.int .i64 0, .string ⟨#[]⟩] 23)
  go_enter Try.func19, Try.ntmps19
  go_wp2_with fail
  clear h1 h
  generalize hg : w.heap.size = g at *
  have hG := Lib.hid hg
  clear hg
  generalize (w.alloc (.cells #[.int .i64 0, .string ⟨#[]⟩] 23)) = w1 at *
  refine' wp_region_conf 7 [.is _, .is _, .is _, .is _, .is _, .is _, .ptr w1.heap.size 23 #[.int .i64 0, .string ⟨#[]⟩]] (by kernel_rfl) (by kernel_rfl) (by kernel_rfl) (by kernel_rfl) rfl ?main
  case main =>
    iterate 6
      refine obs_is (fun w2 hE2 _ => ?_) ?_
      · go_wp2_with (go_at_call 30; refine (M.out _).mono ?_; rintro e w3 ⟨rfl, hb3⟩)
        first | exact post_is hb3 | exact post_is (Below.refl _ _)
      simp only [Act.put, List.setIfInBounds_toArray, List.set_cons_zero, List.set_cons_succ]
    refine obs_ptr (fun w2 hE2 _ => ?_) (fun x => ?_)
    · go_wp2
      exact ⟨_, rfl, ⟨w2.heap.size, hE2.size, rfl, Blk.new _ _ _⟩, (Below.refl _ _).alloc (Nat.le_refl _) _⟩
    simp only [Act.put, List.setIfInBounds_toArray, List.set_cons_zero, List.set_cons_succ]
    refine obs_end fun w3 hE3 hk => ?_
    obtain ⟨g2, hg2, rfl, hb2⟩ := hk _ (List.mem_cons_self)
    clear hk
    have hgs : g ≤ w1.heap.size := by have := hB.size; rw [hG.out] at this; exact this
    have hB3 : Below g w w3 := hB.drew.trans (hE3.mono hgs)
    have R3 := R0.drew.keep hE3 R0.lt
    have hne : g ≠ g2 := by have := R0.lt; omega
    have hgg : g ≤ g2 := by omega
    refine wpList_store_row rfl 23 _ _ rfl g2 #[.int .i64 n, .string b] rfl rfl 23 _ hb2 (by kernel_rfl) (by simp) (by simp [Value.oneCell']) ?_
    have X4 := hb2.setRow #[.int .i64 n, .string b]
    have R4 := R3.farRow hne #[.int .i64 n, .string b]
    have hB4 := below_setRow hB3 (g := g2) hgg #[.int .i64 n, .string b]
    simp only [Act.put]
    generalize w3.setRow g2 _ = w4 at *
    clear hsl hlt M R0 hB hE3 hg2 hb2 hB3 R3
    have c0 := X4.cellAt (i := 0) (by simp)
    have c1 := X4.cellAt (i := 1) (by simp)
    simp at c0 c1
    go_wp2_with fail
    refine (P.out _).mono ?_
    rintro e w5 ⟨rfl, hb⟩
    have R5 := R4.keep hb R4.lt
    have X5 := X4.keep hb X4.lt
    have d0 := X5.cellAt (i := 0) (by simp)
    have d1 := X5.cellAt (i := 1) (by simp)
    simp at d0 d1
    have hB5 := hB4.trans (hb.mono (by have := hB4.size; rw [hG.out] at this; exact this))
    clear c0 c1 X4 R4 hb P hB4
    cases yes
    all_goals
      go_wp2_with (refine wpList_store_row rfl 23 _ _ rfl g _ rfl rfl 23 _ R5 (by kernel_rfl) (by simp) (by simp [Value.oneCell']) ?_)
      exact bodyPost_ret (results_row_tmp rfl _ _ g 23 _ _ rfl (R5.setRow _) Try.underlying23 rfl (by kernel_rfl)) rfl ⟨rfl, by rw [hG.out]; exact below_setRow hB5 (Nat.le_refl _) _⟩

theorem pack_any (a : Int) (d : ByteArray) (w : World) : Calls Try.prog 20 #[.agg #[.int .i64 a, .string d]] w fun e w' => e = .returned (.tuple #[.string (packR a d).1, .int .i64 (packR a d).2]) ∧ Below w.heap.size w w' := by
  unfold packR
  by_cases h : PgOk a d
  · rw [if_pos h]
    obtain ⟨A, rfl⟩ := Int.eq_ofNat_of_zero_le h.1.1
    have k2 := h.1.2
    exact pack_ok A d w (by omega) h.2
  · rw [if_neg h]
    exact pack_form a d w h
theorem unpack_yes (s : ByteArray) (w : World) (h : IsPage s) : Calls Try.prog 18 #[.string s] w fun e w' => e = .returned (.tuple #[.agg #[.int .i64 (num4 s.data.toList : Nat), .string (s.extract 4 s.size)], .int .i64 0]) ∧ Below w.heap.size w w' :=
  unpack_rest s w h.1 true (by simp [h.2])
theorem unpack_no (s : ByteArray) (w : World) (h : ¬ IsPage s) : Calls Try.prog 18 #[.string s] w fun e w' => e = .returned (.tuple #[.agg #[.int .i64 0, .string ⟨#[]⟩], .int .i64 3]) ∧ Below w.heap.size w w' := by
  by_cases h1 : s.size = 224
  · exact unpack_rest s w h1 false (by symm; rw [decide_eq_false_iff_not]; exact fun h2 => h ⟨h1, h2⟩)
  · exact unpack_size s w h1
theorem refUnpack_yes (s : ByteArray) (w : World) (h : IsPage s) : Calls Try.prog 19 #[.string s] w fun e w' => e = .returned (.tuple #[.agg #[.int .i64 (num4 s.data.toList : Nat), .string (s.extract 4 s.size)], .bool true]) ∧ Below w.heap.size w w' :=
  refUnpack_rest s w h.1 true (by simp [h.2])
theorem refUnpack_no (s : ByteArray) (w : World) (h : ¬ IsPage s) : Calls Try.prog 19 #[.string s] w fun e w' => e = .returned (.tuple #[.agg #[.int .i64 0, .string ⟨#[]⟩], .bool false]) ∧ Below w.heap.size w w' := by
  by_cases h1 : s.size = 224
  · exact refUnpack_rest s w h1 false (by symm; rw [decide_eq_false_iff_not]; exact fun h2 => h ⟨h1, h2⟩)
  · exact refUnpack_size s w h1
/-- What is packed is a page's, and unpacked as it was. -/
theorem isPage_pack {A : Nat} {d : ByteArray} (hA : A ≤ 2147483647) (hd : d.size = 220) : IsPage (packS A d) := ⟨packS_size hd, by rw [packS_data, num4_be4 _ (by omega)]; exact hA⟩
theorem pack_at {A : Nat} {d : ByteArray} (hA : A ≤ 2147483647) : num4 (packS A d).data.toList = A := by rw [packS_data, num4_be4 _ (by omega)]
theorem pack_rest {A : Nat} {d : ByteArray} : (packS A d).extract 4 (packS A d).size = d := by
  apply str_ext
  rw [Lib.extract_data, packS_data, List.drop_left' (be4_len A), List.take_of_length_le]
  rw [← size_bytes, packS_data, List.length_append, be4_len]
  omega
end Go.Proofs.Ytjnnkbbgeckgkaa
