/- Texts that belong together, joined: PgA2, PgPl, PgD, PgE, PgF, PgI. -/
import Derived.Test.YtbplgbkbggmaeaaGreatKpg
import Derived.Test.YtbplgbkbggmaeaaGreatKrec
import Derived.Test.YtbplgbkbggmaeaaGreatKbase
namespace Go.Proofs.YtbplgbkbggmaeaaGreat
open Go.RowKit
def InPage (o n : Int) : Prop := 0 ≤ o ∧ 0 ≤ n ∧ o + n ≤ 220
instance (o n : Int) : Decidable (InPage o n) := inferInstanceAs (Decidable (_ ∧ _))
def Chg (r : Rc) : Prop := r.kind = 1 ∨ r.kind = 2
instance (r : Rc) : Decidable (Chg r) := inferInstanceAs (Decidable (_ ∨ _))
end Go.Proofs.YtbplgbkbggmaeaaGreat

namespace Go.Proofs.YtbplgbkbggmaeaaGreat
open Go.RowKit
def putS (d : ByteArray) (o : Nat) (s : ByteArray) : ByteArray := ⟨(splice d.data.toList o s.data.toList).toArray⟩
theorem putS_data (d : ByteArray) (o : Nat) (s : ByteArray) : (putS d o s).data.toList = splice d.data.toList o s.data.toList := rfl
end Go.Proofs.YtbplgbkbggmaeaaGreat

namespace Go.Proofs.YtbplgbkbggmaeaaGreat
open Go.RowKit
section
variable (a o x n : Int) (d s : ByteArray) (w : World)
end
end Go.Proofs.YtbplgbkbggmaeaaGreat

namespace Go.Proofs.YtbplgbkbggmaeaaGreat
open Go.RowKit
theorem putS_pieces (d s : ByteArray) (o : Nat) : d.extract 0 o ++ s ++ d.extract (o + s.size) d.size = putS d o s := by
 apply str_ext
 rw [putS_data]
 unfold splice
 simp [ByteArray.data_append]
 exact List.take_of_length_le (by simp)
section
variable (a o x n : Int) (d s : ByteArray) (w : World)
set_option maxRecDepth 100000 in
set_option maxHeartbeats 4000000 in
theorem pgRefPut_form (h : ¬ PgOk a d) : Calls Tryz.prog 55 #[.agg #[.int .i64 a, .string d], .int .i64 o, .string s, .int .i64 x] w fun e w' => e = .returned (.tuple #[.agg #[.int .i64 0, .string ⟨#[]⟩], .int .i64 3]) ∧ Below w.heap.size w w' := by
 have P := Lib.hid (fun W => pgRefRight_any a d W false (by simp [h]))
 go_enter Tryz.func55, Tryz.ntmps55
 go_wp2_with fail
 have R0 := Blk.new (w.alloc (.cells #[.int .i64 a, .string d] 45)) 45 #[.int .i64 0, .string ⟨#[]⟩]
 have X0 := (Blk.new w 45 #[.int .i64 a, .string d]).alloc (.cells #[.int .i64 0, .string ⟨#[]⟩] 45)
 simp only [World.size_alloc] at R0
 have hB := ((Below.refl w.heap.size w).alloc (Nat.le_refl _) (.cells #[.int .i64 a, .string d] 45)).alloc (by simp) (.cells #[.int .i64 0, .string ⟨#[]⟩] 45)
 generalize (w.alloc (.cells #[.int .i64 a, .string d] 45)).alloc (.cells #[.int .i64 0, .string ⟨#[]⟩] 45) = w1 at *
 refine (P.out _).mono ?_
 rintro e w2 ⟨rfl, hb⟩
 have R2 := R0.keep hb R0.lt
 have X2 := X0.keep hb X0.lt
 replace hB := hB.trans (hb.mono hB.size)
 clear R0 X0 hb P
 go_wp2_with (refine wpList_store_row rfl 45 _ _ rfl (w.heap.size + 1) _ rfl rfl 45 _ R2 (by kernel_rfl) (by simp) (by simp [Value.oneCell']) ?_)
 exact bodyPost_ret (results_row_tmp rfl _ _ (w.heap.size + 1) 45 _ _ rfl (R2.setRow _) Tryz.underlying45 rfl (by kernel_rfl)) rfl ⟨rfl, below_setRow hB (by omega) _⟩
set_option maxRecDepth 100000 in
set_option maxHeartbeats 4000000 in
theorem pgRefPut_place (h : PgOk a d) (hx : ¬ Num x) : Calls Tryz.prog 55 #[.agg #[.int .i64 a, .string d], .int .i64 o, .string s, .int .i64 x] w fun e w' => e = .returned (.tuple #[.agg #[.int .i64 0, .string ⟨#[]⟩], .int .i64 1]) ∧ Below w.heap.size w w' := by
 have P := Lib.hid (fun W => pgRefRight_any a d W true (by simp [h]))
 go_enter Tryz.func55, Tryz.ntmps55
 go_wp2_with fail
 have R0 := Blk.new (w.alloc (.cells #[.int .i64 a, .string d] 45)) 45 #[.int .i64 0, .string ⟨#[]⟩]
 have X0 := (Blk.new w 45 #[.int .i64 a, .string d]).alloc (.cells #[.int .i64 0, .string ⟨#[]⟩] 45)
 simp only [World.size_alloc] at R0
 have hB := ((Below.refl w.heap.size w).alloc (Nat.le_refl _) (.cells #[.int .i64 a, .string d] 45)).alloc (by simp) (.cells #[.int .i64 0, .string ⟨#[]⟩] 45)
 generalize (w.alloc (.cells #[.int .i64 a, .string d] 45)).alloc (.cells #[.int .i64 0, .string ⟨#[]⟩] 45) = w1 at *
 refine (P.out _).mono ?_
 rintro e w2 ⟨rfl, hb⟩
 have R2 := R0.keep hb R0.lt
 have X2 := X0.keep hb X0.lt
 replace hB := hB.trans (hb.mono hB.size)
 clear R0 X0 hb P
 by_cases h0 : x < 0
 · clear hx
   go_wp2_with (refine wpList_store_row rfl 45 _ _ rfl (w.heap.size + 1) _ rfl rfl 45 _ R2 (by kernel_rfl) (by simp) (by simp [Value.oneCell']) ?_)
   exact bodyPost_ret (results_row_tmp rfl _ _ (w.heap.size + 1) 45 _ _ rfl (R2.setRow _) Tryz.underlying45 rfl (by kernel_rfl)) rfl ⟨rfl, below_setRow hB (by omega) _⟩
 · have h1 : (2147483647 : Int) < x := by unfold Num at hx; omega
   clear hx
   go_wp2_with (refine wpList_store_row rfl 45 _ _ rfl (w.heap.size + 1) _ rfl rfl 45 _ R2 (by kernel_rfl) (by simp) (by simp [Value.oneCell']) ?_)
   exact bodyPost_ret (results_row_tmp rfl _ _ (w.heap.size + 1) 45 _ _ rfl (R2.setRow _) Tryz.underlying45 rfl (by kernel_rfl)) rfl ⟨rfl, below_setRow hB (by omega) _⟩
set_option maxRecDepth 100000 in
set_option maxHeartbeats 4000000 in
theorem pgRefPut_range (h : PgOk a d) (hx : Num x) (hf : ¬ InPage o s.size) : Calls Tryz.prog 55 #[.agg #[.int .i64 a, .string d], .int .i64 o, .string s, .int .i64 x] w fun e w' => e = .returned (.tuple #[.agg #[.int .i64 0, .string ⟨#[]⟩], .int .i64 2]) ∧ Below w.heap.size w w' := by
 have P := Lib.hid (fun W => pgRefRight_any a d W true (by simp [h]))
 go_enter Tryz.func55, Tryz.ntmps55
 go_wp2_with fail
 have R0 := Blk.new (w.alloc (.cells #[.int .i64 a, .string d] 45)) 45 #[.int .i64 0, .string ⟨#[]⟩]
 have X0 := (Blk.new w 45 #[.int .i64 a, .string d]).alloc (.cells #[.int .i64 0, .string ⟨#[]⟩] 45)
 simp only [World.size_alloc] at R0
 have hB := ((Below.refl w.heap.size w).alloc (Nat.le_refl _) (.cells #[.int .i64 a, .string d] 45)).alloc (by simp) (.cells #[.int .i64 0, .string ⟨#[]⟩] 45)
 generalize (w.alloc (.cells #[.int .i64 a, .string d] 45)).alloc (.cells #[.int .i64 0, .string ⟨#[]⟩] 45) = w1 at *
 refine (P.out _).mono ?_
 rintro e w2 ⟨rfl, hb⟩
 have R2 := R0.keep hb R0.lt
 have X2 := X0.keep hb X0.lt
 replace hB := hB.trans (hb.mono hB.size)
 clear R0 X0 hb P
 obtain ⟨h0, h1⟩ := hx
 clear h
 by_cases h2 : o < 0
 · clear hf
   go_wp2_with (refine wpList_store_row rfl 45 _ _ rfl (w.heap.size + 1) _ rfl rfl 45 _ R2 (by kernel_rfl) (by simp) (by simp [Value.oneCell']) ?_)
   exact bodyPost_ret (results_row_tmp rfl _ _ (w.heap.size + 1) 45 _ _ rfl (R2.setRow _) Tryz.underlying45 rfl (by kernel_rfl)) rfl ⟨rfl, below_setRow hB (by omega) _⟩
 · by_cases h3 : (220 : Int) < o
   · clear hf
     go_wp2_with (refine wpList_store_row rfl 45 _ _ rfl (w.heap.size + 1) _ rfl rfl 45 _ R2 (by kernel_rfl) (by simp) (by simp [Value.oneCell']) ?_)
     exact bodyPost_ret (results_row_tmp rfl _ _ (w.heap.size + 1) 45 _ _ rfl (R2.setRow _) Tryz.underlying45 rfl (by kernel_rfl)) rfl ⟨rfl, below_setRow hB (by omega) _⟩
   · have h4 : (220 - o : Int) < s.size := by unfold InPage at hf; omega
     clear hf
     go_wp2_with (refine wpList_store_row rfl 45 _ _ rfl (w.heap.size + 1) _ rfl rfl 45 _ R2 (by kernel_rfl) (by simp) (by simp [Value.oneCell']) ?_)
     exact bodyPost_ret (results_row_tmp rfl _ _ (w.heap.size + 1) 45 _ _ rfl (R2.setRow _) Tryz.underlying45 rfl (by kernel_rfl)) rfl ⟨rfl, below_setRow hB (by omega) _⟩
set_option maxRecDepth 100000 in
set_option maxHeartbeats 4000000 in
theorem pgRefPut_ok (O : Nat) (h : PgOk a d) (hx : Num x) (hO : O + s.size ≤ 220) : Calls Tryz.prog 55 #[.agg #[.int .i64 a, .string d], .int .i64 O, .string s, .int .i64 x] w fun e w' => e = .returned (.tuple #[.agg #[.int .i64 x, .string (putS d O s)], .int .i64 0]) ∧ Below w.heap.size w w' := by
 have P := Lib.hid (fun W => pgRefRight_any a d W true (by simp [h]))
 obtain ⟨h0, h1⟩ := hx
 have hd := h.2
 have hp := putS_pieces d s O
 rw [hd] at hp
 replace hp := Lib.hid hp
 clear h
 have h2 : (O : Int) ≤ 220 := by omega
 have h4 : (s.size : Int) ≤ 220 - O := by omega
 have hsl : ∀ W, (Instr.slice 9 (.string d) none (some (.int .i64 O)) none).run Tryz.prog W = .ok (.string (d.extract 0 O)) W := fun W => by
   have := run_slice_string_h (P := Tryz.prog) (w := W) (t := 9) d Tryz.underlying9 .i64 O (by omega) (by omega)
   simpa using this
 go_enter Tryz.func55, Tryz.ntmps55
 go_wp2_with fail
 have R0 := Blk.new (w.alloc (.cells #[.int .i64 a, .string d] 45)) 45 #[.int .i64 0, .string ⟨#[]⟩]
 have X0 := (Blk.new w 45 #[.int .i64 a, .string d]).alloc (.cells #[.int .i64 0, .string ⟨#[]⟩] 45)
 simp only [World.size_alloc] at R0
 have hB := ((Below.refl w.heap.size w).alloc (Nat.le_refl _) (.cells #[.int .i64 a, .string d] 45)).alloc (by simp) (.cells #[.int .i64 0, .string ⟨#[]⟩] 45)
 generalize (w.alloc (.cells #[.int .i64 a, .string d] 45)).alloc (.cells #[.int .i64 0, .string ⟨#[]⟩] 45) = w1 at *
 refine (P.out _).mono ?_
 rintro e w2 ⟨rfl, hb⟩
 have R2 := R0.keep hb R0.lt
 have X2 := X0.keep hb X0.lt
 have c1 := X2.cellAt (i := 1) (by simp)
 simp at c1
 replace hB := hB.trans (hb.mono hB.size)
 clear R0 X0 hb P
 have z1 : (d.extract 0 O).size = O := by rw [ByteArray.size_extract]; omega
 have z2 : (d.extract (O + s.size) 220).size = 220 - (O + s.size) := by rw [ByteArray.size_extract]; omega
 have hA1 : ∀ W, (Op.stringOp .add (d.extract 0 O) s).run Tryz.prog W = .ok (.string (d.extract 0 O ++ s)) W := fun W => run_string_add_sum W _ _ (by omega)
 have hA2 : ∀ W, (Op.stringOp .add (d.extract 0 O ++ s) (d.extract (O + s.size) 220)).run Tryz.prog W = .ok (.string (d.extract 0 O ++ s ++ d.extract (O + s.size) 220)) W := fun W => run_string_add_sum W _ _ (by rw [ByteArray.size_append]; omega)
 have hw : IntKind.i64.wrap ((O : Int) + s.size) = (O : Int) + s.size := by rw [IntKind.wrap_i64]; omega
 have hsl2 := slice_from (P := Tryz.prog) 9 Tryz.underlying9 d (O + s.size) .i64 ((O : Int) + s.size) (by omega) (by omega)
 rw [hd] at hsl2
 clear z1 z2
 have hd' := Lib.hid hd
 go_upto_region 7 with fail
 clear h0 h1 h2 h4 hd
 go_still_tail 16, (by kernel_rfl)
 change wpList _ _ _ _ _ w2.drew
 replace R2 := R2.drew
 replace hB := hB.drew
 clear hsl hsl2 hA1 hA2 hw X2 c1
 rw [hp.out]
 generalize w2.drew = w3 at *
 go_wp2_with (refine wpList_store_row rfl 45 _ _ rfl (w.heap.size + 1) _ rfl rfl 45 _ R2 (by kernel_rfl) (by simp) (by simp [Value.oneCell']) ?_)
 exact bodyPost_ret (results_row_tmp rfl _ _ (w.heap.size + 1) 45 _ _ rfl (R2.setRow _) Tryz.underlying45 rfl (by kernel_rfl)) rfl ⟨rfl, below_setRow hB (by omega) _⟩
end
end Go.Proofs.YtbplgbkbggmaeaaGreat

namespace Go.Proofs.YtbplgbkbggmaeaaGreat
open Go.RowKit
section
variable (a o x n : Int) (d s : ByteArray) (w : World)
end
def putR (a : Int) (d : ByteArray) (o : Int) (s : ByteArray) (x : Int) : Int × ByteArray × Int :=
 if PgOk a d then if Num x then if InPage o s.size then (x, putS d o.toNat s, 0) else (0, ⟨#[]⟩, 2) else (0, ⟨#[]⟩, 1) else (0, ⟨#[]⟩, 3)
section
variable (a o x n : Int) (d s : ByteArray) (w : World)
theorem pgRefPut_any : Calls Tryz.prog 55 #[.agg #[.int .i64 a, .string d], .int .i64 o, .string s, .int .i64 x] w fun e w' => e = .returned (.tuple #[.agg #[.int .i64 (putR a d o s x).1, .string (putR a d o s x).2.1], .int .i64 (putR a d o s x).2.2]) ∧ Below w.heap.size w w' := by
 unfold putR
 by_cases h : PgOk a d
 · by_cases hx : Num x
   · by_cases hf : InPage o s.size
     · rw [if_pos h, if_pos hx, if_pos hf]
       obtain ⟨h0, _, h2⟩ := hf
       obtain ⟨O, rfl⟩ := Int.eq_ofNat_of_zero_le h0
       exact pgRefPut_ok a x d s w O h hx (by omega)
     · rw [if_pos h, if_pos hx, if_neg hf]
       exact pgRefPut_range a o x d s w h hx hf
   · rw [if_pos h, if_neg hx]
     exact pgRefPut_place a o x d s w h hx
 · rw [if_neg h]
   exact pgRefPut_form a o x d s w h
end
end Go.Proofs.YtbplgbkbggmaeaaGreat

namespace Go.Proofs.YtbplgbkbggmaeaaGreat
open Go.RowKit
def applyR (a : Int) (d : ByteArray) (x : Int) (r : Rc) : Int × ByteArray :=
 if Chg r ∧ a < x ∧ (putR a d r.off r.after x).2.2 = 0 then ((putR a d r.off r.after x).1, (putR a d r.off r.after x).2.1) else (a, d)
section
set_option maxRecDepth 100000
variable {w : World} {v : Value} {r : Rc} (a x : Int) (d : ByteArray)
end
end Go.Proofs.YtbplgbkbggmaeaaGreat
