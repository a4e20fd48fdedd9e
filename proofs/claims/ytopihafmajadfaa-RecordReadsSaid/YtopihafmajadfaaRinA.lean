/- The document's reading (careenref04): its parts. -/
import Derived.Test.YtopihafmajadfaaRin
import Derived.Test.YtopihafmajadfaaRecM
import Derived.Test.YtopihafmajadfaaRecA
import Derived.Test.YtopihafmajadfaaNumb
namespace Go.Proofs.Ytopihafmajadfaa
open Go.RowKit

def inV (x : Rin) : Array Value := #[.string ⟨x.s.toArray⟩, .bool x.bad]
theorem bytes_take (l : List UInt8) (n : Nat) : ((⟨l.toArray⟩ : ByteArray).extract 0 n) = ⟨(l.take n).toArray⟩ := by
  apply str_ext
  rw [ByteArray.data_extract, Array.toList_extract, List.extract_eq_take_drop]
  simp
theorem bytes_drop (l : List UInt8) (n m : Nat) (h : m = l.length) : ((⟨l.toArray⟩ : ByteArray).extract n m) = ⟨(l.drop n).toArray⟩ := by
  apply str_ext
  rw [ByteArray.data_extract, Array.toList_extract, List.extract_eq_take_drop, h, ← List.length_drop]
  exact List.take_length
theorem zeros_run (n : Nat) (hn : n ≤ 1000) (W : World) : (Instr.makeSlice 56 (.int .i64 n) (.int .i64 n)).run Try.prog W = .ok (.slice (some ⟨W.heap.size, 0, none⟩) n n) (W.alloc (.cells (bytesV (List.replicate n 0)) 5)) := by
  obtain ⟨i, hi, hz, hs1, hs2⟩ := info_parts (show (Try.prog.info? 5).map (fun i => (i.zero, i.size, i.bytes)) = some (some (.int .u8 0), 1, 1) from by kernel_rfl)
  have h := run_make (P := Try.prog) W 56 5 i (.int .u8 0) Try.underlying56 hi hz .i64 .i64 n n (by omega) (by omega) (by rw [hs2]; omega) (by omega)
  have e : madeCells (Value.int .u8 0).cells ((n : Int).toNat * i.size) = bytesV (List.replicate n 0) := by
    rw [hs1]
    apply Array.ext'
    rw [show (Value.int .u8 0).cells = #[Value.int .u8 0] from rfl, toList_madeCells_one]
    simp [bytesV]
  rw [e] at h
  simpa using h
def InTook (w : World) (g : Nat) (v : Value) (y : Rin) (e : Ending) (w' : World) : Prop := e = .returned v ∧ Blk w' g 84 (inV y) ∧ Only (· = g) w w'

set_option maxRecDepth 100000 in
set_option maxHeartbeats 2000000 in
theorem inTake_yes {w : World} {g : Nat} {x : Rin} (hb : Blk w g 84 (inV x)) (hs : x.s.length ≤ maxLen) (n : Nat) (hf : x.fails n = false) :
    Calls Try.prog 43 #[.pointer (some ⟨g, 0, none⟩), .int .i64 n] w (InTook w g (.string ⟨(x.take n).toArray⟩) (x.rest n)) := by
  unfold Rin.take Rin.rest
  rw [hf]
  unfold Rin.fails at hf
  simp only [Bool.or_eq_false_iff, decide_eq_false_iff_not, Nat.not_lt] at hf
  obtain ⟨s, bad⟩ := x
  obtain ⟨rfl, hn⟩ := hf
  simp only at hs hn
  unfold maxLen at hs
  have hsz : (⟨s.toArray⟩ : ByteArray).size = s.length := by simp [ByteArray.size]
  have e1 := bytes_take s n
  have e2 := bytes_drop s n s.length rfl
  have c0 := hb.cell 0
  have c1 := hb.cell 1
  have z0 := hb.frozen 0
  simp [inV] at c0 c1
  have hn0 : (n : Int) ≤ (s.length : Int) := by omega
  have hfin : Blk (w.setCell ⟨g, 0, none⟩ (.string ⟨(s.drop n).toArray⟩)) g 84 (inV ⟨s.drop n, false⟩) := hb.set 0 _
  have hon : Only (· = g) w (w.setCell ⟨g, 0, none⟩ (.string ⟨(s.drop n).toArray⟩)) := (Only.refl (· = g) w).set (p := ⟨g, 0, none⟩) (.inl rfl) _
  have HF := Lib.hid hfin
  have HO := Lib.hid hon
  have E1 := Lib.hid e1
  have E2 := Lib.hid e2
  rw [if_neg (by decide), if_neg (by decide)]
  clear hfin hon hb e1 e2
  go_enter Try.func43, Try.ntmps43
  go_wp2
  go_ret
  rw [E1.out, E2.out]
  exact ⟨rfl, HF.out, HO.out⟩

set_option maxRecDepth 100000 in
set_option maxHeartbeats 2000000 in
theorem inTake_no {w : World} {g : Nat} {x : Rin} (hb : Blk w g 84 (inV x)) (hs : x.s.length ≤ maxLen) (n : Nat) (hf : x.fails n = true) (hn : n ≤ 1000) :
    Calls Try.prog 43 #[.pointer (some ⟨g, 0, none⟩), .int .i64 n] w (InTook w g (.string ⟨(x.take n).toArray⟩) (x.rest n)) := by
  unfold Rin.take Rin.rest
  rw [hf, if_pos rfl, if_pos rfl]
  unfold Rin.fails at hf
  simp only [Bool.or_eq_true, decide_eq_true_eq] at hf
  obtain ⟨s, bad⟩ := x
  simp only at hs hf
  unfold maxLen at hs
  have hsz : (⟨s.toArray⟩ : ByteArray).size = s.length := by simp [ByteArray.size]
  have c0 := hb.cell 0
  have c1 := hb.cell 1
  have z1 := hb.frozen 1
  simp [inV] at c0 c1
  have hfin : Blk (w.setCell ⟨g, 1, none⟩ (.bool true)) g 84 (inV ⟨s, true⟩) := hb.set 1 _
  have hon : Only (· = g) w (w.setCell ⟨g, 1, none⟩ (.bool true)) := (Only.refl (· = g) w).set (p := ⟨g, 1, none⟩) (.inl rfl) _
  have hmk := zeros_run n hn
  have hcv := conv_blk (Blk.new (w.setCell ⟨g, 1, none⟩ (.bool true)) 5 (bytesV (List.replicate n 0))) 0 n n (by simp) 56 5 9 Try.underlying56 Try.underlying5 Try.underlying9
  rw [List.drop_zero, List.take_of_length_le (by simp), show (w.setCell ⟨g, 1, none⟩ (.bool true)).heap.size = w.heap.size from by simp [World.setCell]] at hcv
  have HF := Lib.hid (hfin.alloc (.cells (bytesV (List.replicate n 0)) 5))
  have HO := Lib.hid (hon.alloc (.cells (bytesV (List.replicate n 0)) 5))
  clear hfin hon hb
  generalize List.replicate n (0 : UInt8) = l at *
  cases bad with
  | true =>
    clear hf
    go_enter Try.func43, Try.ntmps43
    go_wp2
    go_ret
    exact ⟨rfl, HF.out, HO.out⟩
  | false =>
    have hf' : s.length < n := by simpa using hf
    clear hf
    go_enter Try.func43, Try.ntmps43
    go_wp2
    go_ret
    exact ⟨rfl, HF.out, HO.out⟩
theorem inTake_any {w : World} {g : Nat} {x : Rin} (hb : Blk w g 84 (inV x)) (hs : x.s.length ≤ maxLen) (n : Nat) (hn : n ≤ 1000) :
    Calls Try.prog 43 #[.pointer (some ⟨g, 0, none⟩), .int .i64 n] w (InTook w g (.string ⟨(x.take n).toArray⟩) (x.rest n)) := by
  cases hf : x.fails n with
  | true => exact inTake_no hb hs n hf hn
  | false => exact inTake_yes hb hs n hf
theorem Rin.take_len (x : Rin) (n : Nat) : (x.take n).length = n := by
  unfold Rin.take Rin.fails
  split
  · simp
  · rename_i h
    simp at h
    simp; omega
theorem Rin.rest_le (x : Rin) (n : Nat) : (x.rest n).s.length ≤ x.s.length := by
  unfold Rin.rest; split <;> simp

set_option maxRecDepth 100000 in
set_option maxHeartbeats 2000000 in
theorem inFour_any {w : World} {g : Nat} {x : Rin} (hb : Blk w g 84 (inV x)) (hs : x.s.length ≤ maxLen) :
    Calls Try.prog 42 #[.pointer (some ⟨g, 0, none⟩)] w (InTook w g (.int .i64 x.four) (x.rest 4)) := by
  have H1 := Lib.hid (inTake_any hb hs 4 (by omega))
  have hl := x.take_len 4
  have hlt : num4 (x.take 4) < 4294967296 := by
    unfold num4
    have := ((x.take 4).getD 0 0).toNat_lt; have := ((x.take 4).getD 1 0).toNat_lt; have := ((x.take 4).getD 2 0).toNat_lt; have := ((x.take 4).getD 3 0).toNat_lt
    omega
  have H2 := Lib.hid (fun W => number_any ⟨(x.take 4).toArray⟩ W (by show 4 ≤ (x.take 4).toArray.size; simp; omega))
  rw [show (⟨(x.take 4).toArray⟩ : ByteArray).data.toList = x.take 4 from rfl] at H2
  unfold Rin.four
  generalize x.take 4 = t at *
  generalize num4 t = m at *
  generalize x.rest 4 = y at *
  clear hb hs hl
  go_enter Try.func42, Try.ntmps42
  go_wp2_with fail
  refine H1.out.mono ?_
  rintro e w1 ⟨rfl, hb1, ho1⟩
  go_wp2_with fail
  refine (H2.out _).mono ?_
  rintro e w2 ⟨rfl, hb2⟩
  have HB := Lib.hid (hb1.keep hb2 hb1.lt)
  have HO := Lib.hid (ho1.more hb2)
  clear hb1 ho1 hb2
  go_wp2
  go_ret
  exact ⟨rfl, HB.out, HO.out⟩

set_option maxRecDepth 100000 in
set_option maxHeartbeats 2000000 in
theorem inSmall_any {w : World} {g : Nat} {x : Rin} (hb : Blk w g 84 (inV x)) (hs : x.s.length ≤ maxLen) :
    Calls Try.prog 41 #[.pointer (some ⟨g, 0, none⟩)] w (InTook w g (.int .i64 x.small) (x.rest 1)) := by
  have H1 := Lib.hid (inTake_any hb hs 1 (by omega))
  have hl := x.take_len 1
  have hsz : (0 : Nat) < (⟨(x.take 1).toArray⟩ : ByteArray).size := by show 0 < (x.take 1).toArray.size; simp; omega
  have hv : ((⟨(x.take 1).toArray⟩ : ByteArray)[0].toNat : Int) = x.small := by
    unfold Rin.small
    rw [← getD_at _ 0 hsz]
  have HV := Lib.hid hv
  generalize x.small = m at *
  clear hb hs hl hv
  generalize (⟨(x.take 1).toArray⟩ : ByteArray) = t at *
  have h0 : (0 : Int) ≤ (t[0].toNat : Int) := by omega
  have h255 : (t[0].toNat : Int) ≤ 255 := by have := t[0].toNat_lt; omega
  generalize x.rest 1 = y at *
  go_enter Try.func41, Try.ntmps41
  go_wp2_with fail
  refine H1.out.mono ?_
  rintro e w1 ⟨rfl, hb1, ho1⟩
  have HB := Lib.hid hb1
  have HO := Lib.hid ho1
  clear hb1 ho1
  go_wp2
  go_ret
  rw [HV.out]
  exact ⟨rfl, HB.out, HO.out⟩
end Go.Proofs.Ytopihafmajadfaa
