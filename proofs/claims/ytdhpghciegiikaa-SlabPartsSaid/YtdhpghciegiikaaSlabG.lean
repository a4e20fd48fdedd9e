/- Package slab: what is packed is unpacked; and the answers that the document fixes. -/
import Derived.Test.YtdhpghciegiikaaSlabF
namespace Go.Proofs.Ytdhpghciegiikaa
open Go.RowKit

theorem num4_be4 (n : Nat) (h : n < 4294967296) (l : List UInt8) : num4 (be4 n ++ l) = n := by
  unfold num4 be4
  simp [List.getD_eq_getElem?_getD]
  omega
/-- The text that a slab is packed to. -/
def packed (E I : Nat) (b : ByteArray) : ByteArray := ⟨(sect E I b).toArray⟩
theorem packed_data (E I : Nat) (b : ByteArray) : (packed E I b).data.toList = sect E I b := rfl
theorem sect_split (E I : Nat) (b : ByteArray) (hb : b.size ≤ 112) :
    sect E I b = be4 E ++ (be4 I ++ (0 :: UInt8.ofNat b.size :: 0 :: 0 :: (b.data.toList ++ (List.replicate (112 - b.size) 0 ++ le4 (Crc.sum (front E I b)))))) := by
  rw [sect_eq E I b hb]
  unfold front
  simp only [List.append_assoc, List.cons_append, List.nil_append]
section
variable {E I : Nat} {b : ByteArray} (hE : E < 4294967296) (hI : I < 4294967296) (hb : b.size ≤ 112)
include hb in
theorem packed_size : (packed E I b).size = 128 := by rw [← size_bytes, packed_data, sect_len E I b hb]
include hE hb in
theorem partE_packed : partE (packed E I b) = E := by
  unfold partE
  rw [packed_data, sect_split E I b hb, num4_be4 E hE]
include hI hb in
theorem partI_packed : partI (packed E I b) = I := by
  unfold partI
  rw [packed_data, sect_split E I b hb, List.drop_left' (be4_len E), num4_be4 I hI]
include hb in
theorem partN_packed : partN (packed E I b) = b.size := by
  unfold partN
  rw [packed_data, sect_split E I b hb]
  simp [be4, List.getD_eq_getElem?_getD]
  omega
include hb in
theorem partB_packed : partB (packed E I b) = b := by
  unfold partB
  rw [partN_packed hb]
  apply str_ext
  rw [Lib.extract_data, packed_data, sect_split E I b hb]
  have e : ∀ r : List UInt8, List.drop 12 (be4 E ++ (be4 I ++ (0 :: UInt8.ofNat b.size :: 0 :: 0 :: r))) = r := fun r => by simp [be4]
  rw [e, show 12 + b.size - 12 = b.data.toList.length from by rw [size_bytes]; omega, List.take_left' rfl]
include hE hI hb in
theorem isSlab_packed : IsSlab (packed E I b) := by
  refine ⟨packed_size hb, ?_, by rw [partN_packed hb]; exact hb, by rw [partE_packed hE hb, partI_packed hI hb, partB_packed hb, packed_data]⟩
  rw [packed_data, sect_split E I b hb]
  simp [be4, List.getD_eq_getElem?_getD]
end
/-- A slab's sector is packed of its parts. -/
theorem packed_parts {s : ByteArray} (h : IsSlab s) : packed (partE s) (partI s) (partB s) = s := str_ext h.2.2.2
theorem partB_size {s : ByteArray} (h : IsSlab s) : (partB s).size ≤ 112 := by
  unfold partB
  have := h.2.2.1
  rw [ByteArray.size_extract]
  omega

def zeros : ByteArray := ⟨(List.replicate 128 0).toArray⟩
theorem zeros_not : ¬ IsSlab zeros := fun h => absurd h.2.2.2 (by decide +kernel)
def letterA : ByteArray := ⟨#[97]⟩
theorem awake_front : (packed 1 2 letterA).extract 0 13 = ⟨#[0, 0, 0, 1, 0, 0, 0, 2, 0, 1, 0, 0, 97]⟩ := by decide +kernel
theorem awake_sum : Crc.sum [49, 50, 51, 52, 53, 54, 55, 56, 57] = 3421780262 := by decide +kernel

/-! The contracts once more, with the texts under a name. -/
theorem pack_c (E I : Nat) (b : ByteArray) (w : World) (hE : E < 4294967296) (hI : I < 4294967296) (hb : b.size ≤ 112) :
    Calls Try.prog 10 #[.agg #[.int .u32 E, .int .u32 I, .string b]] w fun e w' => e = .returned (.tuple #[.string (packed E I b), .int .i64 0]) ∧ Below w.heap.size w w' := pack_any E I b w hE hI hb
theorem refPack_c (E I : Nat) (b : ByteArray) (w : World) (hE : E < 4294967296) (hI : I < 4294967296) (hb : b.size ≤ 112) :
    Calls Try.prog 14 #[.agg #[.int .u32 E, .int .u32 I, .string b]] w fun e w' => e = .returned (.string (packed E I b)) ∧ Below w.heap.size w w' := refPack_any E I b w hE hI hb
theorem zero_c (w : World) : Calls Try.prog 17 #[] w fun e w' => e = .returned (.string zeros) ∧ Below w.heap.size w w' := zero_any w
theorem unpackNo_c (s : ByteArray) (w : World) (h : ¬ IsSlab s) :
    Calls Try.prog 13 #[.string s] w fun e w' => e = .returned (.tuple #[.agg #[.int .u32 0, .int .u32 0, .string ⟨#[]⟩], .int .i64 8]) ∧ Below w.heap.size w w' := unpack_no s w h
theorem unpackYes_c (s : ByteArray) (w : World) (h : IsSlab s) :
    Calls Try.prog 13 #[.string s] w fun e w' => e = .returned (.tuple #[.agg #[.int .u32 (partE s), .int .u32 (partI s), .string (partB s)], .int .i64 0]) ∧ Below w.heap.size w w' := unpack_yes s w h
theorem refUnpackNo_c (s : ByteArray) (w : World) (h : ¬ IsSlab s) :
    Calls Try.prog 15 #[.string s] w fun e w' => e = .returned (.tuple #[.agg #[.int .u32 0, .int .u32 0, .string ⟨#[]⟩], .bool false]) ∧ Below w.heap.size w w' := refUnpack_no s w h
theorem refUnpackYes_c (s : ByteArray) (w : World) (h : IsSlab s) :
    Calls Try.prog 15 #[.string s] w fun e w' => e = .returned (.tuple #[.agg #[.int .u32 (partE s), .int .u32 (partI s), .string (partB s)], .bool true]) ∧ Below w.heap.size w w' := refUnpack_yes s w h
theorem packA_c (w : World) : Calls Try.prog 10 #[.agg #[.int .u32 1, .int .u32 2, .string ⟨#[97]⟩]] w fun e w' => e = .returned (.tuple #[.string (packed 1 2 letterA), .int .i64 0]) ∧ Below w.heap.size w w' :=
  pack_any 1 2 letterA w (by omega) (by omega) (by decide)
theorem sumDigits_c (w : World) : Calls Try.prog 11 #[.string ⟨#[49, 50, 51, 52, 53, 54, 55, 56, 57]⟩] w fun e w' => e = .returned (.int .u32 3421780262) ∧ Below w.heap.size w w' :=
  (sum_any ⟨#[49, 50, 51, 52, 53, 54, 55, 56, 57]⟩ w (by decide)).mono fun e w' ⟨he, hb⟩ => ⟨by rw [he, show (ByteArray.mk #[49, 50, 51, 52, 53, 54, 55, 56, 57]).data.toList = [49, 50, 51, 52, 53, 54, 55, 56, 57] from rfl, awake_sum]; rfl, hb⟩

set_option maxRecDepth 100000 in
set_option maxHeartbeats 4000000 in
theorem awake_any (w : World) : Calls Try.prog 9 #[] w fun e w' => e = .returned (.bool true) ∧ Below w.heap.size w w' := by
  have hP : ((packed 1 2 letterA).size : Int) = 128 := by rw [packed_size (by decide)]; rfl
  have hZ : (zeros.size : Int) = 128 := by decide
  have hF := awake_front
  go_enter Try.func9, Try.ntmps9
  go_wp2_with fail
  refine (packA_c _).mono ?_
  rintro e w1 ⟨rfl, hb1⟩
  go_wp2_with fail
  refine (zero_c _).mono ?_
  rintro e w2 ⟨rfl, hb2⟩
  go_wp2_with fail
  refine (unpackNo_c _ _ zeros_not).mono ?_
  rintro e w3 ⟨rfl, hb3⟩
  go_wp2_with fail
  refine (sumDigits_c _).mono ?_
  rintro e w4 ⟨rfl, hb4⟩
  go_wp2_with fail
  refine (zero_c _).mono ?_
  rintro e w5 ⟨rfl, hb5⟩
  go_wp2
  go_ret
  refine ⟨rfl, ?_⟩
  exact below2 (below2 ((below2 (below2 hb1 hb2) hb3).trans ((Below.refl _ _).alloc (below2 (below2 hb1 hb2) hb3).size _)) hb4) hb5

/-- A slab as it comes in. -/
def slabArg (E I : Nat) (b : ByteArray) : Value := .agg #[.int .u32 E, .int .u32 I, .string b]

set_option maxRecDepth 100000 in
set_option maxHeartbeats 1000000 in
/-- '==' between slabs. -/
theorem slab_eql (E I E' I' : Int) (B B' : ByteArray) (W : World) : (binOp .eql 24 (.agg #[.int .u32 E, .int .u32 I, .string B]) (.agg #[.int .u32 E', .int .u32 I', .string B'])).run Try.prog W =
    .ok (.bool (E == E' && I == I' && B.toList == B'.toList)) W := by
  go_simp
  by_cases h1 : E = E' <;> by_cases h2 : I = I' <;> by_cases h3 : B.toList = B'.toList <;> simp [h1, h2, h3]
theorem slab_same (E I : Int) (B : ByteArray) (W : World) : (binOp .eql 24 (.agg #[.int .u32 E, .int .u32 I, .string B]) (.agg #[.int .u32 E, .int .u32 I, .string B])).run Try.prog W = .ok (.bool true) W := by
  rw [slab_eql]
  simp

theorem slab_guard : Try.prog.eqGuardType Try.prog.depth 24 = false := by kernel_rfl
/-- The walk's step at '==' between slabs, as one law: guarded or not, where it is wanted. -/
theorem wp_slab_eql {ops : Array Oper} {rest : List Oper} {o : Oper} {a : Act} {w : World} {Q : Exit → Act → World → Prop} (x y : Operand) (ty : TypeId) (ho : o.op = .binOp .eql 24 x y ty)
    (hw : Region.wanted o (yielded ops a.tmps) = true) (E I E' I' : Int) (B B' : ByteArray) (hx : a.eval x = .agg #[.int .u32 E, .int .u32 I, .string B]) (hy : a.eval y = .agg #[.int .u32 E', .int .u32 I', .string B'])
    (h : wpList Try.prog ops Q rest (a.put o.dst (.bool (E == E' && I == I' && B.toList == B'.toList))) w) : wpList Try.prog ops Q (o :: rest) a w := by
  unfold wpList
  rw [if_pos hw]
  refine .inl ?_
  unfold Oper.wp execOp
  simp only [ho, hx, hy, Sem.run_bind, run_eqGuard_agg w .eql 24 x y _ _ slab_guard, Result.andThen_ok, slab_eql, Sem.run_pure, Oper.upon_value]
  exact h

set_option maxRecDepth 100000 in
set_option maxHeartbeats 4000000 in
theorem slabReads_long (s : ByteArray) (w : World) (hl : (1000 : Int) < s.size) : Calls Try.prog 4 #[.string s] w fun e w' => e = .returned (.bool true) ∧ Below w.heap.size w w' := by
  go_enter Try.func4, Try.ntmps4
  go_wp2_with fail
  refine (awake_any _).mono ?_
  rintro e w1 ⟨rfl, hb1⟩
  go_wp2_with fail
  refine (awake_any _).mono ?_
  rintro e w2 ⟨rfl, hb2⟩
  go_wp2
  go_ret
  exact ⟨rfl, below2 hb1 hb2⟩

set_option maxRecDepth 100000 in
set_option maxHeartbeats 4000000 in
theorem slabReads_yes (s : ByteArray) (w : World) (hl : (s.size : Int) ≤ 1000) (h : IsSlab s) : Calls Try.prog 4 #[.string s] w fun e w' => e = .returned (.bool true) ∧ Below w.heap.size w w' := by
  go_enter Try.func4, Try.ntmps4
  go_wp2_with fail
  refine (awake_any _).mono ?_
  rintro e w1 ⟨rfl, hb1⟩
  go_wp2_with fail
  refine (unpackYes_c _ _ h).mono ?_
  rintro e w2 ⟨rfl, hb2⟩
  go_wp2_with fail
  refine (refUnpackYes_c _ _ h).mono ?_
  rintro e w3 ⟨rfl, hb3⟩
  generalize partE s = E at *
  generalize partI s = I at *
  generalize partB s = B at *
  have hx := (Blk.new w2 24 _).keep hb3 (by simp)
  have c0 := hx.cellAt (i := 0) (by simp)
  have c1 := hx.cellAt (i := 1) (by simp)
  have c2 := hx.cellAt (i := 2) (by simp)
  simp at c0 c1 c2
  have hlt := hx.lt
  go_wp2_with (refine wp_slab_eql _ _ _ rfl rfl E I E I B B rfl rfl ?_)
  go_ret
  exact ⟨rfl, ((below2 hb1 hb2).trans (((Below.refl _ _).alloc (below2 hb1 hb2).size _).trans (hb3.mono (by simp; have := (below2 hb1 hb2).size; omega)))).alloc (by have := (below2 hb1 hb2).size; omega) _⟩

set_option maxRecDepth 100000 in
set_option maxHeartbeats 4000000 in
theorem slabReads_no (s : ByteArray) (w : World) (hl : (s.size : Int) ≤ 1000) (h : ¬ IsSlab s) : Calls Try.prog 4 #[.string s] w fun e w' => e = .returned (.bool true) ∧ Below w.heap.size w w' := by
  go_enter Try.func4, Try.ntmps4
  go_wp2_with fail
  refine (awake_any _).mono ?_
  rintro e w1 ⟨rfl, hb1⟩
  go_wp2_with fail
  refine (unpackNo_c _ _ h).mono ?_
  rintro e w2 ⟨rfl, hb2⟩
  go_wp2_with fail
  refine (refUnpackNo_c _ _ h).mono ?_
  rintro e w3 ⟨rfl, hb3⟩
  have hx := (Blk.new w2 24 _).keep hb3 (by simp)
  have c0 := hx.cellAt (i := 0) (by simp)
  have c1 := hx.cellAt (i := 1) (by simp)
  have c2 := hx.cellAt (i := 2) (by simp)
  simp at c0 c1 c2
  have hlt := hx.lt
  go_wp2
  go_ret
  exact ⟨rfl, ((below2 hb1 hb2).trans (((Below.refl _ _).alloc (below2 hb1 hb2).size _).trans (hb3.mono (by simp; have := (below2 hb1 hb2).size; omega)))).alloc (by have := (below2 hb1 hb2).size; omega) _⟩

end Go.Proofs.Ytdhpghciegiikaa
