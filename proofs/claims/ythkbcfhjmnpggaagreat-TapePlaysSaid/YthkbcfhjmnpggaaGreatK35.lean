/- Texts that belong together, joined: PgD, PgE, PgF, PgI, RdC. -/
import Derived.Test.YthkbcfhjmnpggaaGreatK34
import Derived.Test.YthkbcfhjmnpggaaGreatK01
namespace Go.Proofs.YthkbcfhjmnpggaaGreat
open Go.RowKit
section
variable (a o x n:Int) (d s:ByteArray) (w:World)
set_option maxRecDepth 100000 in
set_option maxHeartbeats 4000000 in
theorem pgPut_form (h:¬ PgOk a d):Calls Tryz.prog 127 #[.agg #[.int .i64 a,.string d],.int .i64 o,.string s,.int .i64 x] w fun e w'=>e=.returned (.tuple #[.agg #[.int .i64 0,.string ⟨#[]⟩],.int .i64 3])∧Below w.heap.size w w':=by
 have P:=Lib.hid (fun W=>pgRight_any a d W false (by simp [h]))
 go_enter Tryz.func127,Tryz.ntmps127
 go_wp2_with fail
 have R0:=Blk.new (w.alloc (.cells #[.int .i64 a,.string d] 76)) 76 #[.int .i64 0,.string ⟨#[]⟩]
 have X0:=(Blk.new w 76 #[.int .i64 a,.string d]).alloc (.cells #[.int .i64 0,.string ⟨#[]⟩] 76)
 simp only [World.size_alloc] at R0
 have hB:=((Below.refl w.heap.size w).alloc (Nat.le_refl _) (.cells #[.int .i64 a,.string d] 76)).alloc (by simp) (.cells #[.int .i64 0,.string ⟨#[]⟩] 76)
 generalize (w.alloc (.cells #[.int .i64 a,.string d] 76)).alloc (.cells #[.int .i64 0,.string ⟨#[]⟩] 76)=w1 at *
 refine (P.out _).mono ?_
 rintro e w2 ⟨rfl,hb⟩
 have R2:=R0.keep hb R0.lt
 have X2:=X0.keep hb X0.lt
 replace hB:=hB.trans (hb.mono hB.size)
 clear R0 X0 hb P
 go_wp2_with (refine wpList_store_row rfl 76 _ _ rfl (w.heap.size+1) _ rfl rfl 76 _ R2 (by kernel_rfl) (by simp) (by simp [Value.oneCell']) ?_)
 exact bodyPost_ret (results_row_tmp rfl _ _ (w.heap.size+1) 76 _ _ rfl (R2.setRow _) Tryz.underlying76 rfl (by kernel_rfl)) rfl ⟨rfl,below_setRow hB (by omega) _⟩
set_option maxRecDepth 100000 in
set_option maxHeartbeats 4000000 in
theorem pgPut_place (h:PgOk a d) (hx:¬ Num x):Calls Tryz.prog 127 #[.agg #[.int .i64 a,.string d],.int .i64 o,.string s,.int .i64 x] w fun e w'=>e=.returned (.tuple #[.agg #[.int .i64 0,.string ⟨#[]⟩],.int .i64 1])∧Below w.heap.size w w':=by
 have P:=Lib.hid (fun W=>pgRight_any a d W true (by simp [h]))
 have M:=Lib.hid (fun W=>pgMayPlace_any x W false (by simp [hx]))
 clear h hx
 go_enter Tryz.func127,Tryz.ntmps127
 go_wp2_with fail
 have R0:=Blk.new (w.alloc (.cells #[.int .i64 a,.string d] 76)) 76 #[.int .i64 0,.string ⟨#[]⟩]
 have X0:=(Blk.new w 76 #[.int .i64 a,.string d]).alloc (.cells #[.int .i64 0,.string ⟨#[]⟩] 76)
 simp only [World.size_alloc] at R0
 have hB:=((Below.refl w.heap.size w).alloc (Nat.le_refl _) (.cells #[.int .i64 a,.string d] 76)).alloc (by simp) (.cells #[.int .i64 0,.string ⟨#[]⟩] 76)
 generalize (w.alloc (.cells #[.int .i64 a,.string d] 76)).alloc (.cells #[.int .i64 0,.string ⟨#[]⟩] 76)=w1 at *
 refine (P.out _).mono ?_
 rintro e w2 ⟨rfl,hb⟩
 have R2:=R0.keep hb R0.lt
 have X2:=X0.keep hb X0.lt
 replace hB:=hB.trans (hb.mono hB.size)
 clear R0 X0 hb P
 go_wp2_with fail
 refine (M.out _).mono ?_
 rintro e w3 ⟨rfl,rfl⟩
 go_wp2_with (refine wpList_store_row rfl 76 _ _ rfl (w.heap.size+1) _ rfl rfl 76 _ R2 (by kernel_rfl) (by simp) (by simp [Value.oneCell']) ?_)
 exact bodyPost_ret (results_row_tmp rfl _ _ (w.heap.size+1) 76 _ _ rfl (R2.setRow _) Tryz.underlying76 rfl (by kernel_rfl)) rfl ⟨rfl,below_setRow hB (by omega) _⟩
set_option maxRecDepth 100000 in
set_option maxHeartbeats 4000000 in
theorem pgPut_range (h:PgOk a d) (hx:Num x) (hs:s.size≤maxLen) (hf:¬ InPage o s.size):Calls Tryz.prog 127 #[.agg #[.int .i64 a,.string d],.int .i64 o,.string s,.int .i64 x] w fun e w'=>e=.returned (.tuple #[.agg #[.int .i64 0,.string ⟨#[]⟩],.int .i64 2])∧Below w.heap.size w w':=by
 have P:=Lib.hid (fun W=>pgRight_any a d W true (by simp [h]))
 have M:=Lib.hid (fun W=>pgMayPlace_any x W true (by simp [hx]))
 have F:=Lib.hid (fun W=>pgFits_any o s.size W (sizeWf hs) false (by simp [hf]))
 clear h hx hs hf
 go_enter Tryz.func127,Tryz.ntmps127
 go_wp2_with fail
 have R0:=Blk.new (w.alloc (.cells #[.int .i64 a,.string d] 76)) 76 #[.int .i64 0,.string ⟨#[]⟩]
 have X0:=(Blk.new w 76 #[.int .i64 a,.string d]).alloc (.cells #[.int .i64 0,.string ⟨#[]⟩] 76)
 simp only [World.size_alloc] at R0
 have hB:=((Below.refl w.heap.size w).alloc (Nat.le_refl _) (.cells #[.int .i64 a,.string d] 76)).alloc (by simp) (.cells #[.int .i64 0,.string ⟨#[]⟩] 76)
 generalize (w.alloc (.cells #[.int .i64 a,.string d] 76)).alloc (.cells #[.int .i64 0,.string ⟨#[]⟩] 76)=w1 at *
 refine (P.out _).mono ?_
 rintro e w2 ⟨rfl,hb⟩
 have R2:=R0.keep hb R0.lt
 have X2:=X0.keep hb X0.lt
 replace hB:=hB.trans (hb.mono hB.size)
 clear R0 X0 hb P
 go_wp2_with fail
 refine (M.out _).mono ?_
 rintro e w3 ⟨rfl,rfl⟩
 go_wp2_with fail
 refine (F.out _).mono ?_
 rintro e w4 ⟨rfl,rfl⟩
 go_wp2_with (refine wpList_store_row rfl 76 _ _ rfl (w.heap.size+1) _ rfl rfl 76 _ R2 (by kernel_rfl) (by simp) (by simp [Value.oneCell']) ?_)
 exact bodyPost_ret (results_row_tmp rfl _ _ (w.heap.size+1) 76 _ _ rfl (R2.setRow _) Tryz.underlying76 rfl (by kernel_rfl)) rfl ⟨rfl,below_setRow hB (by omega) _⟩
set_option maxRecDepth 100000 in
set_option maxHeartbeats 4000000 in
theorem pgPut_ok (A O X:Nat) (hA:A≤2147483647) (hd:d.size=220) (hX:X≤2147483647) (hO:O+s.size≤220):Calls Tryz.prog 127 #[.agg #[.int .i64 A,.string d],.int .i64 O,.string s,.int .i64 X] w fun e w'=>e=.returned (.tuple #[.agg #[.int .i64 X,.string (putS d O s)],.int .i64 0])∧Below w.heap.size w w':=by
 have P:=Lib.hid (fun W=>pgRight_any A d W true (by simp [PgOk,Num]; omega))
 have M:=Lib.hid (fun W=>pgMayPlace_any X W true (by simp [Num]; omega))
 have F:=Lib.hid (fun W=>pgFits_any O s.size W (sizeWf (by unfold maxLen; omega)) true (by simp [InPage]; omega))
 have L:=Lib.hid (fun W=>pgLay_any X d W hX hd)
 go_enter Tryz.func127,Tryz.ntmps127
 go_wp2_with fail
 have R0:=Blk.new (w.alloc (.cells #[.int .i64 A,.string d] 76)) 76 #[.int .i64 0,.string ⟨#[]⟩]
 have X0:=(Blk.new w 76 #[.int .i64 A,.string d]).alloc (.cells #[.int .i64 0,.string ⟨#[]⟩] 76)
 simp only [World.size_alloc] at R0
 have hB:=((Below.refl w.heap.size w).alloc (Nat.le_refl _) (.cells #[.int .i64 A,.string d] 76)).alloc (by simp) (.cells #[.int .i64 0,.string ⟨#[]⟩] 76)
 generalize (w.alloc (.cells #[.int .i64 A,.string d] 76)).alloc (.cells #[.int .i64 0,.string ⟨#[]⟩] 76)=w1 at *
 refine (P.out _).mono ?_
 rintro e w2 ⟨rfl,hb⟩
 have R2:=R0.keep hb R0.lt
 have X2:=X0.keep hb X0.lt
 replace hB:=hB.trans (hb.mono hB.size)
 clear R0 X0 hb P
 go_wp2_with fail
 refine (M.out _).mono ?_
 rintro e w3 ⟨rfl,rfl⟩
 go_wp2_with fail
 refine (F.out _).mono ?_
 rintro e w4 ⟨rfl,rfl⟩
 clear M F
 have c0:=X2.cellAt (i:=0) (by simp)
 have f0:=X2.frozen 0
 have X3:=X2.set 0 (.int .i64 X)
 simp at c0 X3
 have d0:=X3.cellAt (i:=0) (by simp)
 have d1:=X3.cellAt (i:=1) (by simp)
 simp at d0 d1
 have R3:=R2.far (p:=⟨w.heap.size,0,none⟩) (by show w.heap.size+1≠w.heap.size; omega) (.int .i64 X)
 have hB3:=hB.setCell (p:=⟨w.heap.size,0,none⟩) (Nat.le_refl _) (.int .i64 X)
 have hz:=zeroP_run
 have Z1:(bytesV (List.replicate 224 0)).size=224:=by rw [bytesV_size]; simp
 generalize bytesV (List.replicate 224 0)=cz at *
 have hZ:=Lib.hid Z1
 clear Z1
 go_wp2_with fail
 clear X2 R2 hB c0 f0 d0 d1
 generalize w2.setCell _ _=w5 at *
 refine (L.out _).mono ?_
 rintro e w6 ⟨rfl,hb⟩
 have R6:=R3.keep hb R3.lt
 have hB6:=hB3.trans (hb.mono hB3.size)
 clear X3 R3 hB3 hb L
 have hgl:=R6.lt
 have K6:=Blk.new w6 178 cz
 have R7:=(R6.alloc (.cells cz 178)).farRow (k:=w6.heap.size) (by have:=R6.lt; omega) (bytesV (be4 X++d.data.toList))
 have hB7:=below_setRow (hB6.alloc hB6.size (.cells cz 178)) (g:=w6.heap.size) hB6.size (bytesV (be4 X++d.data.toList))
 have K7:=K6.setRow (bytesV (be4 X++d.data.toList))
 have LS:(be4 X++d.data.toList).length=224:=by
  have hd':d.data.toList.length=220:=hd
  simp [be4_len,hd']
 have S1:(bytesV (be4 X++d.data.toList)).size=224:=by rw [bytesV_size]; exact LS
 have S3:=bytesV_one (be4 X++d.data.toList)
 have hS:=Lib.hid S1
 have hS3:=Lib.hid S3
 have hLS:=Lib.hid LS
 clear R6 hB6 S1 S3 LS
 generalize hL6:be4 X++d.data.toList=L6 at *
 replace hL6:=Lib.hid hL6
 go_upto_region 9 with (refine wpList_store_row rfl 178 _ _ rfl w6.heap.size _ rfl rfl 178 _ K6 (by rw [hS.out]; kernel_rfl) (by rw [hS.out,hZ.out]) hS3.out ?_)
 clear K6
 generalize (w6.alloc _).setRow _ _=w7 at *
 have g0:(0:Int)≤4+O:=by omega
 have g1:4+(O:Int)≤224:=by omega
 generalize hg:w6.heap.size=g at *
 have hne:g≠w.heap.size+1:=by omega
 have hgw:w.heap.size≤g:=by omega
 clear hgl
 have hN:num4 (splice L6 (4+O) s.data.toList)=X:=by
  rw [← hL6.out,splice_page,num4_be4 _ (by omega)]
 have hD:(⟨(List.drop 4 (splice L6 (4+O) s.data.toList)).toArray⟩:ByteArray)=putS d O s:=by
  rw [← hL6.out,splice_page,List.drop_left' (be4_len X)]
  rfl
 have hLn:(splice L6 (4+O) s.data.toList).length=224:=by
  rw [length_splice _ _ _ (by rw [hLS.out,size_bytes]; omega)]
  exact hLS.out
 have Q:=Lib.hid (fun W=>page_any (splice L6 (4+O) s.data.toList) W hLn)
 rw [hN,hD] at Q
 clear hN hD
 have hcp0:O=220→(Builtin.copy_ #[47,9] 3 #[.slice (some ⟨g,0,none⟩) 0 0,.string s]).run Tryz.prog w7=.ok (.int .i64 s.size) (w7.setRow g (bytesV (splice L6 (4+O) s.data.toList))):=fun h=>by
  have hs0:s.size=0:=by omega
  have h:=Lib.run_copy_row_string (P:=Tryz.prog) w7 47 9 3 5 g 0 0 0 s _ 178 Tryz.underlying47 info_u8 K7 (by omega) (by rw [bytesV_size]; omega)
  rw [← size_bytes s,bytesV_splice,size_bytes s] at h
  have hs1:s.data.toList = []:=List.eq_nil_of_length_eq_zero hs0
  rw [hs1,splice_nil] at h ⊢
  exact h
 have hcp1:(Builtin.copy_ #[47,9] 3 #[.slice (some ⟨g,4+O,none⟩) (224 - (4+O)) (224 - (4+O)),.string s]).run Tryz.prog w7=.ok (.int .i64 s.size) (w7.setRow g (bytesV (splice L6 (4+O) s.data.toList))):=by
  have h:=Lib.run_copy_row_string (P:=Tryz.prog) w7 47 9 3 5 g (4+O) (224 - (4+O)) (224 - (4+O)) s _ 178 Tryz.underlying47 info_u8 K7 (by omega) (by rw [bytesV_size,hLS.out]; omega)
  rw [← size_bytes s,bytesV_splice,size_bytes s] at h
  exact h
 have K8:=K7.setRow (bytesV (splice L6 (4+O) s.data.toList))
 have R8:=R7.farRow (k:=g) (Ne.symm hne) (bytesV (splice L6 (4+O) s.data.toList))
 have hB8:=below_setRow hB7 (g:=g) hgw (bytesV (splice L6 (4+O) s.data.toList))
 have S8:Hid ((bytesV (splice L6 (4+O) s.data.toList)).size=224):=by show _=_; rw [bytesV_size]; exact hLn
 clear K7 R7 hB7 hLn
 generalize bytesV (splice L6 (4+O) s.data.toList)=c8 at *
 generalize w7.setRow g c8=w8 at *
 by_cases h220:O=220
 ·replace hcp0:=hcp0 h220
  have hz0:224 - (4+O)=0:=by omega
  clear hcp1
  go_upto_region 10 with fail
  clear hcp0
  go_wp2_with (refine wpList_load_row rfl 178 _ rfl g rfl 178 _ (0,0) _ K8 Tryz.underlying178 rfl (by rw [S8.out]; kernel_rfl) ?_)
  refine (Q.out _).mono ?_
  rintro e w9 ⟨rfl,hb9⟩
  have R9:=R8.keep hb9 R8.lt
  have hB9:=hB8.trans (hb9.mono hB8.size)
  clear R8 hB8 hb9 K8 Q
  go_wp2_with (refine wpList_store_row rfl 76 _ _ rfl (w.heap.size+1) _ rfl rfl 76 _ R9 (by kernel_rfl) (by simp) (by simp [Value.oneCell']) ?_)
  exact bodyPost_ret (results_row_tmp rfl _ _ (w.heap.size+1) 76 _ _ rfl (R9.setRow _) Tryz.underlying76 rfl (by kernel_rfl)) rfl ⟨by rw [h220]; rfl,below_setRow hB9 (by omega) _⟩
 ·have hz0:¬ (224 - (4+O)=0):=by omega
  clear hcp0
  go_upto_region 10 with fail
  clear hcp1
  go_wp2_with (refine wpList_load_row rfl 178 _ rfl g rfl 178 _ (0,0) _ K8 Tryz.underlying178 rfl (by rw [S8.out]; kernel_rfl) ?_)
  refine (Q.out _).mono ?_
  rintro e w9 ⟨rfl,hb9⟩
  have R9:=R8.keep hb9 R8.lt
  have hB9:=hB8.trans (hb9.mono hB8.size)
  clear R8 hB8 hb9 K8 Q
  go_wp2_with (refine wpList_store_row rfl 76 _ _ rfl (w.heap.size+1) _ rfl rfl 76 _ R9 (by kernel_rfl) (by simp) (by simp [Value.oneCell']) ?_)
  exact bodyPost_ret (results_row_tmp rfl _ _ (w.heap.size+1) 76 _ _ rfl (R9.setRow _) Tryz.underlying76 rfl (by kernel_rfl)) rfl ⟨rfl,below_setRow hB9 (by omega) _⟩
end
end Go.Proofs.YthkbcfhjmnpggaaGreat

namespace Go.Proofs.YthkbcfhjmnpggaaGreat
open Go.RowKit
theorem putS_pieces (d s:ByteArray) (o:Nat):d.extract 0 o++s++d.extract (o+s.size) d.size=putS d o s:=by
 apply str_ext
 rw [putS_data]
 unfold splice
 simp [ByteArray.data_append]
 exact List.take_of_length_le (by simp)
section
variable (a o x n:Int) (d s:ByteArray) (w:World)
set_option maxRecDepth 100000 in
set_option maxHeartbeats 4000000 in
theorem pgRefPut_form (h:¬ PgOk a d):Calls Tryz.prog 118 #[.agg #[.int .i64 a,.string d],.int .i64 o,.string s,.int .i64 x] w fun e w'=>e=.returned (.tuple #[.agg #[.int .i64 0,.string ⟨#[]⟩],.int .i64 3])∧Below w.heap.size w w':=by
 have P:=Lib.hid (fun W=>pgRefRight_any a d W false (by simp [h]))
 go_enter Tryz.func118,Tryz.ntmps118
 go_wp2_with fail
 have R0:=Blk.new (w.alloc (.cells #[.int .i64 a,.string d] 76)) 76 #[.int .i64 0,.string ⟨#[]⟩]
 have X0:=(Blk.new w 76 #[.int .i64 a,.string d]).alloc (.cells #[.int .i64 0,.string ⟨#[]⟩] 76)
 simp only [World.size_alloc] at R0
 have hB:=((Below.refl w.heap.size w).alloc (Nat.le_refl _) (.cells #[.int .i64 a,.string d] 76)).alloc (by simp) (.cells #[.int .i64 0,.string ⟨#[]⟩] 76)
 generalize (w.alloc (.cells #[.int .i64 a,.string d] 76)).alloc (.cells #[.int .i64 0,.string ⟨#[]⟩] 76)=w1 at *
 refine (P.out _).mono ?_
 rintro e w2 ⟨rfl,hb⟩
 have R2:=R0.keep hb R0.lt
 have X2:=X0.keep hb X0.lt
 replace hB:=hB.trans (hb.mono hB.size)
 clear R0 X0 hb P
 go_wp2_with (refine wpList_store_row rfl 76 _ _ rfl (w.heap.size+1) _ rfl rfl 76 _ R2 (by kernel_rfl) (by simp) (by simp [Value.oneCell']) ?_)
 exact bodyPost_ret (results_row_tmp rfl _ _ (w.heap.size+1) 76 _ _ rfl (R2.setRow _) Tryz.underlying76 rfl (by kernel_rfl)) rfl ⟨rfl,below_setRow hB (by omega) _⟩
set_option maxRecDepth 100000 in
set_option maxHeartbeats 4000000 in
theorem pgRefPut_place (h:PgOk a d) (hx:¬ Num x):Calls Tryz.prog 118 #[.agg #[.int .i64 a,.string d],.int .i64 o,.string s,.int .i64 x] w fun e w'=>e=.returned (.tuple #[.agg #[.int .i64 0,.string ⟨#[]⟩],.int .i64 1])∧Below w.heap.size w w':=by
 have P:=Lib.hid (fun W=>pgRefRight_any a d W true (by simp [h]))
 go_enter Tryz.func118,Tryz.ntmps118
 go_wp2_with fail
 have R0:=Blk.new (w.alloc (.cells #[.int .i64 a,.string d] 76)) 76 #[.int .i64 0,.string ⟨#[]⟩]
 have X0:=(Blk.new w 76 #[.int .i64 a,.string d]).alloc (.cells #[.int .i64 0,.string ⟨#[]⟩] 76)
 simp only [World.size_alloc] at R0
 have hB:=((Below.refl w.heap.size w).alloc (Nat.le_refl _) (.cells #[.int .i64 a,.string d] 76)).alloc (by simp) (.cells #[.int .i64 0,.string ⟨#[]⟩] 76)
 generalize (w.alloc (.cells #[.int .i64 a,.string d] 76)).alloc (.cells #[.int .i64 0,.string ⟨#[]⟩] 76)=w1 at *
 refine (P.out _).mono ?_
 rintro e w2 ⟨rfl,hb⟩
 have R2:=R0.keep hb R0.lt
 have X2:=X0.keep hb X0.lt
 replace hB:=hB.trans (hb.mono hB.size)
 clear R0 X0 hb P
 by_cases h0:x < 0
 ·clear hx
  go_wp2_with (refine wpList_store_row rfl 76 _ _ rfl (w.heap.size+1) _ rfl rfl 76 _ R2 (by kernel_rfl) (by simp) (by simp [Value.oneCell']) ?_)
  exact bodyPost_ret (results_row_tmp rfl _ _ (w.heap.size+1) 76 _ _ rfl (R2.setRow _) Tryz.underlying76 rfl (by kernel_rfl)) rfl ⟨rfl,below_setRow hB (by omega) _⟩
 ·have h1:(2147483647:Int) < x:=by unfold Num at hx; omega
  clear hx
  go_wp2_with (refine wpList_store_row rfl 76 _ _ rfl (w.heap.size+1) _ rfl rfl 76 _ R2 (by kernel_rfl) (by simp) (by simp [Value.oneCell']) ?_)
  exact bodyPost_ret (results_row_tmp rfl _ _ (w.heap.size+1) 76 _ _ rfl (R2.setRow _) Tryz.underlying76 rfl (by kernel_rfl)) rfl ⟨rfl,below_setRow hB (by omega) _⟩
set_option maxRecDepth 100000 in
set_option maxHeartbeats 4000000 in
theorem pgRefPut_range (h:PgOk a d) (hx:Num x) (hf:¬ InPage o s.size):Calls Tryz.prog 118 #[.agg #[.int .i64 a,.string d],.int .i64 o,.string s,.int .i64 x] w fun e w'=>e=.returned (.tuple #[.agg #[.int .i64 0,.string ⟨#[]⟩],.int .i64 2])∧Below w.heap.size w w':=by
 have P:=Lib.hid (fun W=>pgRefRight_any a d W true (by simp [h]))
 go_enter Tryz.func118,Tryz.ntmps118
 go_wp2_with fail
 have R0:=Blk.new (w.alloc (.cells #[.int .i64 a,.string d] 76)) 76 #[.int .i64 0,.string ⟨#[]⟩]
 have X0:=(Blk.new w 76 #[.int .i64 a,.string d]).alloc (.cells #[.int .i64 0,.string ⟨#[]⟩] 76)
 simp only [World.size_alloc] at R0
 have hB:=((Below.refl w.heap.size w).alloc (Nat.le_refl _) (.cells #[.int .i64 a,.string d] 76)).alloc (by simp) (.cells #[.int .i64 0,.string ⟨#[]⟩] 76)
 generalize (w.alloc (.cells #[.int .i64 a,.string d] 76)).alloc (.cells #[.int .i64 0,.string ⟨#[]⟩] 76)=w1 at *
 refine (P.out _).mono ?_
 rintro e w2 ⟨rfl,hb⟩
 have R2:=R0.keep hb R0.lt
 have X2:=X0.keep hb X0.lt
 replace hB:=hB.trans (hb.mono hB.size)
 clear R0 X0 hb P
 obtain ⟨h0,h1⟩:=hx
 clear h
 by_cases h2:o < 0
 ·clear hf
  go_wp2_with (refine wpList_store_row rfl 76 _ _ rfl (w.heap.size+1) _ rfl rfl 76 _ R2 (by kernel_rfl) (by simp) (by simp [Value.oneCell']) ?_)
  exact bodyPost_ret (results_row_tmp rfl _ _ (w.heap.size+1) 76 _ _ rfl (R2.setRow _) Tryz.underlying76 rfl (by kernel_rfl)) rfl ⟨rfl,below_setRow hB (by omega) _⟩
 ·by_cases h3:(220:Int) < o
  ·clear hf
   go_wp2_with (refine wpList_store_row rfl 76 _ _ rfl (w.heap.size+1) _ rfl rfl 76 _ R2 (by kernel_rfl) (by simp) (by simp [Value.oneCell']) ?_)
   exact bodyPost_ret (results_row_tmp rfl _ _ (w.heap.size+1) 76 _ _ rfl (R2.setRow _) Tryz.underlying76 rfl (by kernel_rfl)) rfl ⟨rfl,below_setRow hB (by omega) _⟩
  ·have h4:(220 - o:Int) < s.size:=by unfold InPage at hf; omega
   clear hf
   go_wp2_with (refine wpList_store_row rfl 76 _ _ rfl (w.heap.size+1) _ rfl rfl 76 _ R2 (by kernel_rfl) (by simp) (by simp [Value.oneCell']) ?_)
   exact bodyPost_ret (results_row_tmp rfl _ _ (w.heap.size+1) 76 _ _ rfl (R2.setRow _) Tryz.underlying76 rfl (by kernel_rfl)) rfl ⟨rfl,below_setRow hB (by omega) _⟩
set_option maxRecDepth 100000 in
set_option maxHeartbeats 4000000 in
theorem pgRefPut_ok (O:Nat) (h:PgOk a d) (hx:Num x) (hO:O+s.size≤220):Calls Tryz.prog 118 #[.agg #[.int .i64 a,.string d],.int .i64 O,.string s,.int .i64 x] w fun e w'=>e=.returned (.tuple #[.agg #[.int .i64 x,.string (putS d O s)],.int .i64 0])∧Below w.heap.size w w':=by
 have P:=Lib.hid (fun W=>pgRefRight_any a d W true (by simp [h]))
 obtain ⟨h0,h1⟩:=hx
 have hd:=h.2
 have hp:=putS_pieces d s O
 rw [hd] at hp
 replace hp:=Lib.hid hp
 clear h
 have h2:(O:Int)≤220:=by omega
 have h4:(s.size:Int)≤220 - O:=by omega
 have hsl:∀ W,(Instr.slice 9 (.string d) none (some (.int .i64 O)) none).run Tryz.prog W=.ok (.string (d.extract 0 O)) W:=fun W=>by
  have:=run_slice_string_h (P:=Tryz.prog) (w:=W) (t:=9) d Tryz.underlying9 .i64 O (by omega) (by omega)
  simpa using this
 go_enter Tryz.func118,Tryz.ntmps118
 go_wp2_with fail
 have R0:=Blk.new (w.alloc (.cells #[.int .i64 a,.string d] 76)) 76 #[.int .i64 0,.string ⟨#[]⟩]
 have X0:=(Blk.new w 76 #[.int .i64 a,.string d]).alloc (.cells #[.int .i64 0,.string ⟨#[]⟩] 76)
 simp only [World.size_alloc] at R0
 have hB:=((Below.refl w.heap.size w).alloc (Nat.le_refl _) (.cells #[.int .i64 a,.string d] 76)).alloc (by simp) (.cells #[.int .i64 0,.string ⟨#[]⟩] 76)
 generalize (w.alloc (.cells #[.int .i64 a,.string d] 76)).alloc (.cells #[.int .i64 0,.string ⟨#[]⟩] 76)=w1 at *
 refine (P.out _).mono ?_
 rintro e w2 ⟨rfl,hb⟩
 have R2:=R0.keep hb R0.lt
 have X2:=X0.keep hb X0.lt
 have c1:=X2.cellAt (i:=1) (by simp)
 simp at c1
 replace hB:=hB.trans (hb.mono hB.size)
 clear R0 X0 hb P
 have z1:(d.extract 0 O).size=O:=by rw [ByteArray.size_extract]; omega
 have z2:(d.extract (O+s.size) 220).size=220 - (O+s.size):=by rw [ByteArray.size_extract]; omega
 have hA1:∀ W,(Op.stringOp .add (d.extract 0 O) s).run Tryz.prog W=.ok (.string (d.extract 0 O++s)) W:=fun W=>run_string_add_sum W _ _ (by omega)
 have hA2:∀ W,(Op.stringOp .add (d.extract 0 O++s) (d.extract (O+s.size) 220)).run Tryz.prog W=.ok (.string (d.extract 0 O++s++d.extract (O+s.size) 220)) W:=fun W=>run_string_add_sum W _ _ (by rw [ByteArray.size_append]; omega)
 have hw:IntKind.i64.wrap ((O:Int)+s.size)=(O:Int)+s.size:=by rw [IntKind.wrap_i64]; omega
 have hsl2:=slice_from (P:=Tryz.prog) 9 Tryz.underlying9 d (O+s.size) .i64 ((O:Int)+s.size) (by omega) (by omega)
 rw [hd] at hsl2
 clear z1 z2
 have hd':=Lib.hid hd
 go_upto_region 7 with fail
 clear h0 h1 h2 h4 hd
 go_still_tail 16,(by kernel_rfl)
 change wpList _ _ _ _ _ w2.drew
 replace R2:=R2.drew
 replace hB:=hB.drew
 clear hsl hsl2 hA1 hA2 hw X2 c1
 rw [hp.out]
 generalize w2.drew=w3 at *
 go_wp2_with (refine wpList_store_row rfl 76 _ _ rfl (w.heap.size+1) _ rfl rfl 76 _ R2 (by kernel_rfl) (by simp) (by simp [Value.oneCell']) ?_)
 exact bodyPost_ret (results_row_tmp rfl _ _ (w.heap.size+1) 76 _ _ rfl (R2.setRow _) Tryz.underlying76 rfl (by kernel_rfl)) rfl ⟨rfl,below_setRow hB (by omega) _⟩
end
end Go.Proofs.YthkbcfhjmnpggaaGreat

namespace Go.Proofs.YthkbcfhjmnpggaaGreat
open Go.RowKit
section
variable (a o x n:Int) (d s:ByteArray) (w:World)
end
def putR (a:Int) (d:ByteArray) (o:Int) (s:ByteArray) (x:Int):Int × ByteArray × Int :=
 if PgOk a d then if Num x then if InPage o s.size then (x,putS d o.toNat s,0) else (0,⟨#[]⟩,2) else (0,⟨#[]⟩,1) else (0,⟨#[]⟩,3)
section
variable (a o x n:Int) (d s:ByteArray) (w:World)
theorem pgPut_any (hs:s.size≤maxLen):Calls Tryz.prog 127 #[.agg #[.int .i64 a,.string d],.int .i64 o,.string s,.int .i64 x] w fun e w'=>e=.returned (.tuple #[.agg #[.int .i64 (putR a d o s x).1,.string (putR a d o s x).2.1],.int .i64 (putR a d o s x).2.2])∧Below w.heap.size w w':=by
 unfold putR
 by_cases h:PgOk a d
 ·by_cases hx:Num x
  ·by_cases hf:InPage o s.size
   ·rw [if_pos h,if_pos hx,if_pos hf]
    obtain ⟨h0,_,h2⟩:=hf
    obtain ⟨O,rfl⟩:=Int.eq_ofNat_of_zero_le h0
    obtain ⟨X,rfl⟩:=Int.eq_ofNat_of_zero_le hx.1
    obtain ⟨A,rfl⟩:=Int.eq_ofNat_of_zero_le h.1.1
    have k1:=hx.2
    have k2:=h.1.2
    exact pgPut_ok d s w A O X (by omega) h.2 (by omega) (by omega)
   ·rw [if_pos h,if_pos hx,if_neg hf]
    exact pgPut_range a o x d s w h hx hs hf
  ·rw [if_pos h,if_neg hx]
   exact pgPut_place a o x d s w h hx
 ·rw [if_neg h]
  exact pgPut_form a o x d s w h
theorem pgRefPut_any:Calls Tryz.prog 118 #[.agg #[.int .i64 a,.string d],.int .i64 o,.string s,.int .i64 x] w fun e w'=>e=.returned (.tuple #[.agg #[.int .i64 (putR a d o s x).1,.string (putR a d o s x).2.1],.int .i64 (putR a d o s x).2.2])∧Below w.heap.size w w':=by
 unfold putR
 by_cases h:PgOk a d
 ·by_cases hx:Num x
  ·by_cases hf:InPage o s.size
   ·rw [if_pos h,if_pos hx,if_pos hf]
    obtain ⟨h0,_,h2⟩:=hf
    obtain ⟨O,rfl⟩:=Int.eq_ofNat_of_zero_le h0
    exact pgRefPut_ok a x d s w O h hx (by omega)
   ·rw [if_pos h,if_pos hx,if_neg hf]
    exact pgRefPut_range a o x d s w h hx hf
  ·rw [if_pos h,if_neg hx]
   exact pgRefPut_place a o x d s w h hx
 ·rw [if_neg h]
  exact pgRefPut_form a o x d s w h
end
end Go.Proofs.YthkbcfhjmnpggaaGreat

namespace Go.Proofs.YthkbcfhjmnpggaaGreat
open Go.RowKit
def applyR (a:Int) (d:ByteArray) (x:Int) (r:Rc):Int × ByteArray :=
 if Chg r∧a < x∧(putR a d r.off r.after x).2.2=0 then ((putR a d r.off r.after x).1,(putR a d r.off r.after x).2.1) else (a,d)
def Sized' (r:Rc):Prop:=r.after.size≤maxLen
set_option maxRecDepth 100000 in
set_option maxHeartbeats 8000000 in
theorem pgApply_no {w:World} {v:Value} {r:Rc} (a x:Int) (d:ByteArray) (hv:IsRec w v r) (hd:d.size≤500) (hn:¬ (Chg r∧a < x)) :
 Calls Tryz.prog 116 #[.agg #[.int .i64 a,.string d],.int .i64 x,v] w fun e w'=>e=.returned (.agg #[.int .i64 a,.string d])∧Below w.heap.size w w':=by
 have hC:=Lib.hid (fun W (hb:Below w.heap.size w W) yes=>pgChanges_any (hv.keep hb) yes)
 obtain ⟨vt,vp,rfl,hl⟩:=hv
 obtain ⟨ta,tc,e⟩:=hl.t.form
 subst e
 obtain ⟨pa,pc,e⟩:=hl.p.form
 subst e
 clear hl
 have hN:=Lib.hid hn
 clear hn
 have K:=Lib.hid (fun W=>cloneS_any d W (by omega))
 unfold recV recCells at *
 go_enter Tryz.func116,Tryz.ntmps116
 go_wp2_with fail
 have X0:=((Blk.new w 76 #[.int .i64 a,.string d]).alloc (.cells #[.int .i64 r.kind,.int .i64 r.txn,.int .i64 r.page,.int .i64 r.off,.int .i64 r.prev,.int .i64 r.next,.int .i64 r.beg,.string r.before,.string r.after,.slice ta r.txns.length tc,.slice pa r.pages.length pc] 46)).alloc (.cells #[.int .i64 0,.string ⟨#[]⟩] 76)
 have R0:=Blk.new ((w.alloc (.cells #[.int .i64 a,.string d] 76)).alloc (.cells #[.int .i64 r.kind,.int .i64 r.txn,.int .i64 r.page,.int .i64 r.off,.int .i64 r.prev,.int .i64 r.next,.int .i64 r.beg,.string r.before,.string r.after,.slice ta r.txns.length tc,.slice pa r.pages.length pc] 46)) 76 #[.int .i64 0,.string ⟨#[]⟩]
 simp only [World.size_alloc] at R0
 have hB:=(((Below.refl w.heap.size w).alloc (Nat.le_refl _) (.cells #[.int .i64 a,.string d] 76)).alloc (by simp) (.cells #[.int .i64 r.kind,.int .i64 r.txn,.int .i64 r.page,.int .i64 r.off,.int .i64 r.prev,.int .i64 r.next,.int .i64 r.beg,.string r.before,.string r.after,.slice ta r.txns.length tc,.slice pa r.pages.length pc] 46)).alloc (by simp; omega) (.cells #[.int .i64 0,.string ⟨#[]⟩] 76)
 generalize ((w.alloc (.cells #[.int .i64 a,.string d] 76)).alloc _).alloc (.cells #[.int .i64 0,.string ⟨#[]⟩] 76)=w1 at *
 refine (hC.out _ hB (decide (Chg r)) rfl).mono ?_
 rintro e w2 ⟨rfl,hb⟩
 have R2:=R0.keep hb R0.lt
 have X2:=X0.keep hb X0.lt
 replace hB:=hB.trans (hb.mono hB.size)
 clear R0 X0 hb hC
 have c0:=X2.cellAt (i:=0) (by simp)
 have c1:=X2.cellAt (i:=1) (by simp)
 simp at c0 c1
 by_cases h1:Chg r
 ·rw [decide_eq_true h1]
  have h2:¬ a < x:=fun h=>hN.out ⟨h1,h⟩
  clear h1 hN
  go_wp2_with fail
  refine (K.out _).mono ?_
  rintro e w3 ⟨rfl,hb⟩
  have R3:=R2.keep hb R2.lt
  have X3:=X2.keep hb X2.lt
  have hB3:=hB.trans (hb.mono hB.size)
  clear R2 X2 hb c0 c1 hB K
  have e1:=X3.cellAt (i:=1) (by simp)
  have f1:=X3.frozen 1
  have X4:=X3.set 1 (.string d)
  simp at e1 X4
  have d0:=X4.cellAt (i:=0) (by simp)
  have d1:=X4.cellAt (i:=1) (by simp)
  simp at d0 d1
  have R4:=R3.far (p:=⟨w.heap.size,1,none⟩) (by show w.heap.size+1+1≠w.heap.size; omega) (.string d)
  have hB4:=hB3.setCell (p:=⟨w.heap.size,1,none⟩) (Nat.le_refl _) (.string d)
  clear X3 R3 hB3
  go_wp2_with (refine wpList_store_row rfl 76 _ _ rfl (w.heap.size+1+1) _ rfl rfl 76 _ R4 (by kernel_rfl) (by simp) (by simp [Value.oneCell']) ?_)
  exact bodyPost_ret (results_cell_row rfl _ _ (w.heap.size+1+1) 76 _ (0,0) _ rfl (R4.setRow _) Tryz.underlying76 rfl (by kernel_rfl)) rfl ⟨rfl,below_setRow hB4 (by omega) _⟩
 ·rw [decide_eq_false h1]
  clear h1 hN
  go_wp2_with fail
  refine (K.out _).mono ?_
  rintro e w3 ⟨rfl,hb⟩
  have R3:=R2.keep hb R2.lt
  have X3:=X2.keep hb X2.lt
  have hB3:=hB.trans (hb.mono hB.size)
  clear R2 X2 hb c0 c1 hB K
  have e1:=X3.cellAt (i:=1) (by simp)
  have f1:=X3.frozen 1
  have X4:=X3.set 1 (.string d)
  simp at e1 X4
  have d0:=X4.cellAt (i:=0) (by simp)
  have d1:=X4.cellAt (i:=1) (by simp)
  simp at d0 d1
  have R4:=R3.far (p:=⟨w.heap.size,1,none⟩) (by show w.heap.size+1+1≠w.heap.size; omega) (.string d)
  have hB4:=hB3.setCell (p:=⟨w.heap.size,1,none⟩) (Nat.le_refl _) (.string d)
  clear X3 R3 hB3
  go_wp2_with (refine wpList_store_row rfl 76 _ _ rfl (w.heap.size+1+1) _ rfl rfl 76 _ R4 (by kernel_rfl) (by simp) (by simp [Value.oneCell']) ?_)
  exact bodyPost_ret (results_cell_row rfl _ _ (w.heap.size+1+1) 76 _ (0,0) _ rfl (R4.setRow _) Tryz.underlying76 rfl (by kernel_rfl)) rfl ⟨rfl,below_setRow hB4 (by omega) _⟩
section
set_option maxRecDepth 100000
variable {w:World} {v:Value} {r:Rc} (a x:Int) (d:ByteArray)
set_option maxHeartbeats 8000000 in
theorem pgApply_go (hv:IsRec w v r) (hd:d.size≤500) (hs:Sized' r) (hc:Chg r) (hx:a < x) (A:Int) (D:ByteArray) (E:Int) (hp:putR a d r.off r.after x=(A,D,E)) :
 Calls Tryz.prog 116 #[.agg #[.int .i64 a,.string d],.int .i64 x,v] w fun e w'=>e=.returned (if E=0 then .agg #[.int .i64 A,.string D] else .agg #[.int .i64 a,.string d])∧Below w.heap.size w w':=by
 have hC:=Lib.hid (fun W (hb:Below w.heap.size w W)=>pgChanges_any (hv.keep hb) true (by simp [hc]))
 have P:=Lib.hid (fun W=>pgPut_any a r.off x d r.after W hs)
 rw [hp] at P
 obtain ⟨vt,vp,rfl,hl⟩:=hv
 obtain ⟨ta,tc,e⟩:=hl.t.form
 subst e
 obtain ⟨pa,pc,e⟩:=hl.p.form
 subst e
 clear hl hc hp
 have K:=Lib.hid (fun W=>cloneS_any d W (by omega))
 unfold recV recCells at *
 go_enter Tryz.func116,Tryz.ntmps116
 go_wp2_with fail
 have X0:=((Blk.new w 76 #[.int .i64 a,.string d]).alloc (.cells #[.int .i64 r.kind,.int .i64 r.txn,.int .i64 r.page,.int .i64 r.off,.int .i64 r.prev,.int .i64 r.next,.int .i64 r.beg,.string r.before,.string r.after,.slice ta r.txns.length tc,.slice pa r.pages.length pc] 46)).alloc (.cells #[.int .i64 0,.string ⟨#[]⟩] 76)
 have Y0:=(Blk.new (w.alloc (.cells #[.int .i64 a,.string d] 76)) 46 #[.int .i64 r.kind,.int .i64 r.txn,.int .i64 r.page,.int .i64 r.off,.int .i64 r.prev,.int .i64 r.next,.int .i64 r.beg,.string r.before,.string r.after,.slice ta r.txns.length tc,.slice pa r.pages.length pc]).alloc (.cells #[.int .i64 0,.string ⟨#[]⟩] 76)
 have R0:=Blk.new ((w.alloc (.cells #[.int .i64 a,.string d] 76)).alloc (.cells #[.int .i64 r.kind,.int .i64 r.txn,.int .i64 r.page,.int .i64 r.off,.int .i64 r.prev,.int .i64 r.next,.int .i64 r.beg,.string r.before,.string r.after,.slice ta r.txns.length tc,.slice pa r.pages.length pc] 46)) 76 #[.int .i64 0,.string ⟨#[]⟩]
 simp only [World.size_alloc] at R0 Y0
 have hB:=(((Below.refl w.heap.size w).alloc (Nat.le_refl _) (.cells #[.int .i64 a,.string d] 76)).alloc (by simp) (.cells #[.int .i64 r.kind,.int .i64 r.txn,.int .i64 r.page,.int .i64 r.off,.int .i64 r.prev,.int .i64 r.next,.int .i64 r.beg,.string r.before,.string r.after,.slice ta r.txns.length tc,.slice pa r.pages.length pc] 46)).alloc (by simp; omega) (.cells #[.int .i64 0,.string ⟨#[]⟩] 76)
 generalize ((w.alloc (.cells #[.int .i64 a,.string d] 76)).alloc _).alloc (.cells #[.int .i64 0,.string ⟨#[]⟩] 76)=w1 at *
 refine (hC.out _ hB).mono ?_
 rintro e w2 ⟨rfl,hb⟩
 have R2:=R0.keep hb R0.lt
 have X2:=X0.keep hb X0.lt
 have Y2:=Y0.keep hb Y0.lt
 replace hB:=hB.trans (hb.mono hB.size)
 clear R0 X0 Y0 hb hC
 have c0:=X2.cellAt (i:=0) (by simp)
 have c1:=X2.cellAt (i:=1) (by simp)
 have b3:=Y2.cellAt (i:=3) (by simp)
 have b8:=Y2.cellAt (i:=8) (by simp)
 simp at c0 c1 b3 b8
 go_wp2_with fail
 refine (P.out _).mono ?_
 rintro e w5 ⟨rfl,hb⟩
 replace R2:=R2.keep hb R2.lt
 replace X2:=X2.keep hb X2.lt
 replace hB:=hB.trans (hb.mono hB.size)
 clear Y2 hb P c0 c1 b3 b8 hx
 have N0:=Blk.new w5 76 #[.int .i64 0,.string ⟨#[]⟩]
 have N1:=N0.setRow #[.int .i64 A,.string D]
 have R6:=(R2.alloc (.cells #[.int .i64 0,.string ⟨#[]⟩] 76)).farRow (k:=w5.heap.size) (by have:=R2.lt; omega) #[.int .i64 A,.string D]
 have X6:=(X2.alloc (.cells #[.int .i64 0,.string ⟨#[]⟩] 76)).farRow (k:=w5.heap.size) (by have:=X2.lt; omega) #[.int .i64 A,.string D]
 have hB6:=below_setRow (hB.alloc hB.size (.cells #[.int .i64 0,.string ⟨#[]⟩] 76)) (g:=w5.heap.size) hB.size #[.int .i64 A,.string D]
 go_upto_region 3 with (refine wpList_store_row rfl 76 _ _ rfl w5.heap.size _ rfl rfl 76 _ N0 (by kernel_rfl) (by simp) (by simp [Value.oneCell']) ?_)
 clear N0 R2 X2 hB
 generalize (w5.alloc _).setRow _ _=w6 at *
 generalize w5.heap.size=g at *
 by_cases hE:E=0
 ·have h1:(E == 0)=true:=by simp [hE]
  have n0:=N1.cellAt (i:=0) (by simp)
  have n1:=N1.cellAt (i:=1) (by simp)
  simp at n0 n1
  have HE:=Lib.hid hE
  clear hE K
  go_wp2_with (refine wpList_store_row rfl 76 _ _ rfl (w.heap.size+1+1) _ rfl rfl 76 _ R6 (by kernel_rfl) (by simp) (by simp [Value.oneCell']) ?_)
  exact bodyPost_ret (results_cell_row rfl _ _ (w.heap.size+1+1) 76 _ (0,0) _ rfl (R6.setRow _) Tryz.underlying76 rfl (by kernel_rfl)) rfl ⟨by first | rfl | rw [if_pos HE.out],below_setRow hB6 (by omega) _⟩
 ·have h1:(E == 0)=false:=by simp [hE]
  have c1:=X6.cellAt (i:=1) (by simp)
  simp at c1
  have HE:=Lib.hid hE
  clear hE N1
  go_wp2_with fail
  refine (K.out _).mono ?_
  rintro e w7 ⟨rfl,hb⟩
  have R7:=R6.keep hb R6.lt
  have X7:=X6.keep hb X6.lt
  have hB7:=hB6.trans (hb.mono hB6.size)
  clear R6 X6 hb c1 hB6 K
  have e1:=X7.cellAt (i:=1) (by simp)
  have f1:=X7.frozen 1
  have X8:=X7.set 1 (.string d)
  simp at e1 X8
  have d0:=X8.cellAt (i:=0) (by simp)
  have d1:=X8.cellAt (i:=1) (by simp)
  simp at d0 d1
  have R8:=R7.far (p:=⟨w.heap.size,1,none⟩) (by show w.heap.size+1+1≠w.heap.size; omega) (.string d)
  have hB8:=hB7.setCell (p:=⟨w.heap.size,1,none⟩) (Nat.le_refl _) (.string d)
  clear X7 R7 hB7
  go_wp2_with (refine wpList_store_row rfl 76 _ _ rfl (w.heap.size+1+1) _ rfl rfl 76 _ R8 (by kernel_rfl) (by simp) (by simp [Value.oneCell']) ?_)
  exact bodyPost_ret (results_cell_row rfl _ _ (w.heap.size+1+1) 76 _ (0,0) _ rfl (R8.setRow _) Tryz.underlying76 rfl (by kernel_rfl)) rfl ⟨by first | rfl | rw [if_neg HE.out],below_setRow hB8 (by omega) _⟩
theorem pgApply_any (hv:IsRec w v r) (hd:d.size≤500) (hs:Sized' r) :
 Calls Tryz.prog 116 #[.agg #[.int .i64 a,.string d],.int .i64 x,v] w fun e w'=>e=.returned (.agg #[.int .i64 (applyR a d x r).1,.string (applyR a d x r).2])∧Below w.heap.size w w':=by
 by_cases h:Chg r∧a < x
 ·have hh:=pgApply_go a x d hv hd hs h.1 h.2 (putR a d r.off r.after x).1 (putR a d r.off r.after x).2.1 (putR a d r.off r.after x).2.2 rfl
  refine hh.mono ?_
  rintro e w' ⟨rfl,hb⟩
  refine ⟨?_,hb⟩
  unfold applyR
  by_cases hE:(putR a d r.off r.after x).2.2=0
  · rw [if_pos hE,if_pos ⟨h.1,h.2,hE⟩]
  · rw [if_neg hE,if_neg fun h'=>hE h'.2.2]
 ·have e:applyR a d x r=(a,d):=if_neg fun h'=>h ⟨h'.1,h'.2.1⟩
  rw [e]
  exact pgApply_no a x d hv hd h
end
end Go.Proofs.YthkbcfhjmnpggaaGreat

namespace Go.Proofs.YthkbcfhjmnpggaaGreat
theorem applyR_P (a:Int) (d:ByteArray) (x:Int) (r:Rc):applyR a d x r=Hs.apP (a,d) x r:=by
 unfold applyR Hs.apP putR
 by_cases h1:Chg r
 ·have k1:Hs.Chg16 r:=h1
  by_cases h2:a < x
  ·by_cases h3:PgOk a d
   ·have k3:Hs.RightP (a,d):=h3
    by_cases h4:Num x
    ·by_cases h5:InPage r.off r.after.size
     ·have k5:Hs.SpotP r:=⟨h5.1,h5.2.2⟩
      rw [if_pos h3,if_pos h4,if_pos h5,if_pos ⟨h1,h2,rfl⟩,if_pos ⟨k1,h2,k3,h4,k5⟩]
     · rw [if_pos h3,if_pos h4,if_neg h5,if_neg (fun k=>by have:=k.2.2; revert this; decide),if_neg (fun k=>h5 ⟨k.2.2.2.2.1,Int.natCast_nonneg _,k.2.2.2.2.2⟩)]
    · rw [if_pos h3,if_neg h4,if_neg (fun k=>by have:=k.2.2; revert this; decide),if_neg (fun k=>h4 k.2.2.2.1)]
   · rw [if_neg h3,if_neg (fun k=>by have:=k.2.2; revert this; decide),if_neg (fun k=>h3 k.2.2.1)]
  · rw [if_neg (fun k=>h2 k.2.1),if_neg (fun k=>h2 k.2.1)]
 · rw [if_neg (fun k=>h1 k.1),if_neg (fun k=>h1 k.1)]
end Go.Proofs.YthkbcfhjmnpggaaGreat
