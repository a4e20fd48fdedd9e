/- Package page: Pack and Unpack. -/
import Derived.Test.YtjnnkbbgeckgkaaPgD
namespace Go.Proofs.Ytjnnkbbgeckgkaa
open Go.RowKit

/-- A page's bytes as a text. -/
def packS (A : Nat) (d : ByteArray) : ByteArray := ⟨(be4 A ++ d.data.toList).toArray⟩
theorem packS_data (A : Nat) (d : ByteArray) : (packS A d).data.toList = be4 A ++ d.data.toList := rfl
theorem packS_size {A : Nat} {d : ByteArray} (hd : d.size = 220) : (packS A d).size = 224 := by
  rw [← size_bytes, packS_data, List.length_append, be4_len, size_bytes, hd]
/-- What Pack answers. -/
def packR (a : Int) (d : ByteArray) : ByteArray × Int := if PgOk a d then (packS a.toNat d, 0) else (⟨#[]⟩, 3)
/-- Is a text one of a page? -/
def IsPage (s : ByteArray) : Prop := s.size = 224 ∧ num4 s.data.toList ≤ 2147483647
instance (s : ByteArray) : Decidable (IsPage s) := inferInstanceAs (Decidable (_ ∧ _))
/-- What a text's page is. -/
def unpackR (s : ByteArray) : Int × ByteArray := if IsPage s then ((num4 s.data.toList : Nat), s.extract 4 s.size) else (0, ⟨#[]⟩)

set_option maxRecDepth 100000 in
set_option maxHeartbeats 4000000 in
theorem pack_form (a : Int) (d : ByteArray) (w : World) (h : ¬ PgOk a d) : Calls Try.prog 20 #[.agg #[.int .i64 a, .string d]] w fun e w' => e = .returned (.tuple #[.string ⟨#[]⟩, .int .i64 3]) ∧ Below w.heap.size w w' := by
  have P := Lib.hid (fun W => right_any a d W false (by simp [h]))
  go_enter Try.func20, Try.ntmps20
  go_wp2_with fail
  have hB := (Below.refl w.heap.size w).alloc (Nat.le_refl _) (.cells #[.int .i64 a, .string d] 23)
  generalize (w.alloc (.cells #[.int .i64 a, .string d] 23)) = w1 at *
  refine (P.out _).mono ?_
  rintro e w2 ⟨rfl, hb⟩
  go_wp2
  go_ret2
  exact ⟨rfl, hB.trans (hb.mono hB.size)⟩

set_option maxRecDepth 100000 in
set_option maxHeartbeats 4000000 in
theorem pack_ok (A : Nat) (d : ByteArray) (w : World) (hA : A ≤ 2147483647) (hd : d.size = 220) : Calls Try.prog 20 #[.agg #[.int .i64 A, .string d]] w fun e w' => e = .returned (.tuple #[.string (packS A d), .int .i64 0]) ∧ Below w.heap.size w w' := by
  have P := Lib.hid (fun W => right_any A d W true (by simp [PgOk, Num]; omega))
  have L := Lib.hid (fun W => lay_any A d W hA hd)
  have hz := zeroP_run
  have Z1 : Hid ((bytesV (List.replicate 224 0)).size = 224) := by show _ = _; rw [bytesV_size]; simp
  generalize bytesV (List.replicate 224 0) = cz at *
  have LS : (be4 A ++ d.data.toList).length = 224 := by
    have hd' : d.data.toList.length = 220 := hd
    simp [be4_len, hd']
  have hLS := Lib.hid LS
  have hS : Hid ((bytesV (be4 A ++ d.data.toList)).size = 224) := by show _ = _; rw [bytesV_size]; exact LS
  have hS3 := Lib.hid (bytesV_one (be4 A ++ d.data.toList))
  have hR : Hid (packS A d = ⟨(be4 A ++ d.data.toList).toArray⟩) := rfl
  clear LS
  generalize be4 A ++ d.data.toList = L6 at *
  go_enter Try.func20, Try.ntmps20
  go_wp2_with fail
  have X0 := Blk.new w 23 #[.int .i64 A, .string d]
  have hB := (Below.refl w.heap.size w).alloc (Nat.le_refl _) (.cells #[.int .i64 A, .string d] 23)
  generalize (w.alloc (.cells #[.int .i64 A, .string d] 23)) = w1 at *
  refine (P.out _).mono ?_
  rintro e w2 ⟨rfl, hb⟩
  have X2 := X0.keep hb X0.lt
  replace hB := hB.trans (hb.mono hB.size)
  have c0 := X2.cellAt (i := 0) (by simp)
  have c1 := X2.cellAt (i := 1) (by simp)
  simp at c0 c1
  clear X0 hb P
  go_wp2_with fail
  refine (L.out _).mono ?_
  rintro e w3 ⟨rfl, hb⟩
  replace hB := hB.trans (hb.mono hB.size)
  clear hb L X2 c0 c1
  have K6 := Blk.new w3 57 cz
  have hB7 := below_setRow (hB.alloc hB.size (.cells cz 57)) (g := w3.heap.size) hB.size (bytesV L6)
  have K7 := K6.setRow (bytesV L6)
  go_upto_region 4 with (refine wpList_store_row rfl 57 _ _ rfl w3.heap.size _ rfl rfl 57 _ K6 (by rw [hS.out]; kernel_rfl) (by rw [hS.out, Z1.out]) hS3.out ?_)
  clear K6 hB
  generalize (w3.alloc _).setRow _ _ = w4 at *
  have hcv := conv_blk K7 0 224 224 (by rw [hLS.out]; omega) 59 5 9 Try.underlying59 Try.underlying5 Try.underlying9
  rw [List.drop_zero, List.take_of_length_le (by rw [hLS.out]; omega), ← hR.out] at hcv
  go_wp2
  go_ret2
  exact ⟨rfl, hB7⟩

set_option maxRecDepth 100000 in
set_option maxHeartbeats 4000000 in
theorem unpack_size (s : ByteArray) (w : World) (h : s.size ≠ 224) : Calls Try.prog 18 #[.string s] w fun e w' => e = .returned (.tuple #[.agg #[.int .i64 0, .string ⟨#[]⟩], .int .i64 3]) ∧ Below w.heap.size w w' := by
  have h1 : ((s.size : Int) != 224) = true := by simp; omega
  have hz := zeroP_run
  generalize bytesV (List.replicate 224 0) = cz at *
  have R0 := (Blk.new w 23 #[.int .i64 0, .string ⟨#[]⟩]).alloc (.cells cz 57)
  have hB := ((Below.refl w.heap.size w).alloc (Nat.le_refl _) (.cells #[.int .i64 0, .string ⟨#[]⟩] 23)).alloc (by simp) (.cells cz 57)
  go_enter Try.func18, Try.ntmps18
  go_wp2_with (refine wpList_store_row rfl 23 _ _ rfl w.heap.size _ rfl rfl 23 _ R0 (by kernel_rfl) (by simp) (by simp [Value.oneCell']) ?_)
  exact bodyPost_ret (results_row_tmp rfl _ _ w.heap.size 23 _ _ rfl (R0.setRow _) Try.underlying23 rfl (by kernel_rfl)) rfl ⟨rfl, below_setRow hB (Nat.le_refl _) _⟩

set_option maxRecDepth 100000 in
set_option maxHeartbeats 4000000 in
theorem unpack_rest (s : ByteArray) (w : World) (h : s.size = 224) (yes : Bool) (hy : yes = decide (num4 s.data.toList ≤ 2147483647)) : Calls Try.prog 18 #[.string s] w fun e w' => e = .returned (.tuple (if yes then #[.agg #[.int .i64 (num4 s.data.toList : Nat), .string (s.extract 4 s.size)], .int .i64 0] else #[.agg #[.int .i64 0, .string ⟨#[]⟩], .int .i64 3])) ∧ Below w.heap.size w w' := by
  have h1 : ((s.size : Int) != 224) = false := by simp [h]
  have hz := zeroP_run
  have Z1 : Hid ((bytesV (List.replicate 224 0)).size = 224) := by show _ = _; rw [bytesV_size]; simp
  have hE : (⟨(List.drop 4 s.data.toList).toArray⟩ : ByteArray) = s.extract 4 s.size := by
    apply str_ext
    rw [Lib.extract_data]
    show List.drop 4 s.data.toList = _
    rw [List.take_of_length_le (by simp)]
  have G := Lib.hid (fun W => page_any s.data.toList W h)
  rw [hE] at G
  have P := Lib.hid (fun W => right_any (num4 s.data.toList : Nat) (s.extract 4 s.size) W yes (by
    rw [hy, decide_eq_decide]
    unfold PgOk Num
    rw [ByteArray.size_extract]
    constructor
    · intro h2; omega
    · rintro ⟨⟨_, h3⟩, _⟩; omega))
  have hcp : ∀ W, Blk W (w.heap.size + 1) 57 (bytesV (List.replicate 224 0)) → (Builtin.copy_ #[59, 9] 3 #[.slice (some ⟨w.heap.size + 1, 0, none⟩) 224 224, .string s]).run Try.prog W = .ok (.int .i64 s.size) (W.setRow (w.heap.size + 1) (bytesV s.data.toList)) := fun W hW => by
    have hh := Lib.run_copy_row_string (P := Try.prog) W 59 9 3 5 (w.heap.size + 1) 0 224 224 s _ 57 Try.underlying59 info_u8 hW (by omega) (by rw [bytesV_size]; simp; omega)
    rw [← size_bytes s, bytesV_splice, size_bytes s] at hh
    rw [hh]
    congr 3
    unfold splice
    rw [List.take_zero, List.nil_append, List.drop_of_length_le (by rw [size_bytes, h]; simp), List.append_nil]
  have S1 : Hid ((bytesV s.data.toList).size = 224) := by show _ = _; rw [bytesV_size]; exact h
  generalize bytesV (List.replicate 224 0) = cz at *
  generalize bytesV s.data.toList = cs at *
  clear hE
  have hy' := Lib.hid hy
  clear hy
  generalize num4 s.data.toList = n at *
  generalize s.extract 4 s.size = b at *
  have R0 := (Blk.new w 23 #[.int .i64 0, .string ⟨#[]⟩]).alloc (.cells cz 57)
  have hB := ((Below.refl w.heap.size w).alloc (Nat.le_refl _) (.cells #[.int .i64 0, .string ⟨#[]⟩] 23)).alloc (by simp) (.cells cz 57)
  have K0 := Blk.new (w.alloc (.cells #[.int .i64 0, .string ⟨#[]⟩] 23)) 57 cz
  simp only [World.size_alloc] at K0
  go_enter Try.func18, Try.ntmps18
  go_upto_region 4 with fail
  generalize (w.alloc (.cells #[.int .i64 0, .string ⟨#[]⟩] 23)).alloc (.cells cz 57) = w1 at *
  replace hcp := hcp w1 K0
  have R1 := R0.farRow (k := w.heap.size + 1) (by omega) cs
  have K1 := K0.setRow cs
  replace hB := below_setRow hB (g := w.heap.size + 1) (by omega) cs
  go_upto_region 5 with fail
  clear hcp R0 K0 hz h1 h
  generalize w1.setRow _ _ = w2 at *
  go_wp2_with (refine wpList_load_row rfl 57 _ rfl (w.heap.size + 1) rfl 57 _ (0, 0) _ K1 Try.underlying57 rfl (by rw [S1.out]; kernel_rfl) ?_)
  refine (G.out _).mono ?_
  rintro e w3 ⟨rfl, hb⟩
  have R3 := R1.keep hb R1.lt
  replace hB := hB.trans (hb.mono hB.size)
  clear R1 K1 hb G
  have X3 := Blk.new w3 23 #[.int .i64 0, .string ⟨#[]⟩]
  have X4 := X3.setRow #[.int .i64 n, .string b]
  have R4 := (R3.alloc (.cells #[.int .i64 0, .string ⟨#[]⟩] 23)).farRow (k := w3.heap.size) (by have := R3.lt; omega) #[.int .i64 n, .string b]
  have hB4 := below_setRow (hB.alloc hB.size (.cells #[.int .i64 0, .string ⟨#[]⟩] 23)) (g := w3.heap.size) hB.size #[.int .i64 n, .string b]
  go_upto_region 6 with (refine wpList_store_row rfl 23 _ _ rfl w3.heap.size _ rfl rfl 23 _ X3 (by kernel_rfl) (by simp) (by simp [Value.oneCell']) ?_)
  clear X3 R3 hB
  generalize (w3.alloc _).setRow _ _ = w4 at *
  generalize w3.heap.size = g at *
  have c0 := X4.cellAt (i := 0) (by simp)
  have c1 := X4.cellAt (i := 1) (by simp)
  simp at c0 c1
  go_wp2_with fail
  refine (P.out _).mono ?_
  rintro e w5 ⟨rfl, hb⟩
  have R5 := R4.keep hb R4.lt
  have X5 := X4.keep hb X4.lt
  have d0 := X5.cellAt (i := 0) (by simp)
  have d1 := X5.cellAt (i := 1) (by simp)
  simp at d0 d1
  replace hB4 := hB4.trans (hb.mono hB4.size)
  clear c0 c1 X4 R4 hb P
  cases yes
  all_goals
    go_wp2_with (refine wpList_store_row rfl 23 _ _ rfl w.heap.size _ rfl rfl 23 _ R5 (by kernel_rfl) (by simp) (by simp [Value.oneCell']) ?_)
    exact bodyPost_ret (results_row_tmp rfl _ _ w.heap.size 23 _ _ rfl (R5.setRow _) Try.underlying23 rfl (by kernel_rfl)) rfl ⟨rfl, below_setRow hB4 (Nat.le_refl _) _⟩
end Go.Proofs.Ytjnnkbbgeckgkaa
