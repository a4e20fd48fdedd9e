/- Texts that belong together, joined: PgJ, ChB, ChC, RdF, RdG, ChD, RdH, RdI, TaO, App, OpenPgs, RdJ, PgEm. -/
import Derived.Test.YthkbcfhjmnpggaaGreatK35
import Derived.Test.YthkbcfhjmnpggaaGreatK34
import Derived.Test.YthkbcfhjmnpggaaGreatK01
import Derived.Test.YthkbcfhjmnpggaaGreatK00
import Derived.Test.YthkbcfhjmnpggaaGreatK08
import Derived.Test.YthkbcfhjmnpggaaGreatK02
import Derived.Test.YthkbcfhjmnpggaaGreatK19
import Derived.Test.YthkbcfhjmnpggaaGreatK21
namespace Go.Proofs.YthkbcfhjmnpggaaGreat
open Go.RowKit
set_option maxRecDepth 100000
section
variable {w:World} {v:Value} {r:Rc} (a x:Int) (d:ByteArray)
set_option maxHeartbeats 8000000 in
theorem pgRefApply_form (hv:IsRec w v r) (h:¬ PgOk a d) :
 Calls Tryz.prog 92 #[.agg #[.int .i64 a,.string d],.int .i64 x,v] w fun e w'=>e=.returned (.agg #[.int .i64 a,.string d])∧Below w.heap.size w w':=by
 have P:=Lib.hid (fun W=>pgRefRight_any a d W false (by simp [h]))
 clear h
 obtain ⟨vt,vp,rfl,hl⟩:=hv
 obtain ⟨ta,tc,e⟩:=hl.t.form
 subst e
 obtain ⟨pa,pc,e⟩:=hl.p.form
 subst e
 clear hl
 unfold recV recCells at *
 go_enter Tryz.func92,Tryz.ntmps92
 go_wp2_with fail
 have X0:=((Blk.new w 76 #[.int .i64 a,.string d]).alloc (.cells #[.int .i64 r.kind,.int .i64 r.txn,.int .i64 r.page,.int .i64 r.off,.int .i64 r.prev,.int .i64 r.next,.int .i64 r.beg,.string r.before,.string r.after,.slice ta r.txns.length tc,.slice pa r.pages.length pc] 46)).alloc (.cells #[.int .i64 0,.string ⟨#[]⟩] 76)
 have Y0:=(Blk.new (w.alloc (.cells #[.int .i64 a,.string d] 76)) 46 #[.int .i64 r.kind,.int .i64 r.txn,.int .i64 r.page,.int .i64 r.off,.int .i64 r.prev,.int .i64 r.next,.int .i64 r.beg,.string r.before,.string r.after,.slice ta r.txns.length tc,.slice pa r.pages.length pc]).alloc (.cells #[.int .i64 0,.string ⟨#[]⟩] 76)
 have R0:=Blk.new ((w.alloc (.cells #[.int .i64 a,.string d] 76)).alloc (.cells #[.int .i64 r.kind,.int .i64 r.txn,.int .i64 r.page,.int .i64 r.off,.int .i64 r.prev,.int .i64 r.next,.int .i64 r.beg,.string r.before,.string r.after,.slice ta r.txns.length tc,.slice pa r.pages.length pc] 46)) 76 #[.int .i64 0,.string ⟨#[]⟩]
 simp only [World.size_alloc] at R0 Y0
 have hB:=(((Below.refl w.heap.size w).alloc (Nat.le_refl _) (.cells #[.int .i64 a,.string d] 76)).alloc (by simp) (.cells #[.int .i64 r.kind,.int .i64 r.txn,.int .i64 r.page,.int .i64 r.off,.int .i64 r.prev,.int .i64 r.next,.int .i64 r.beg,.string r.before,.string r.after,.slice ta r.txns.length tc,.slice pa r.pages.length pc] 46)).alloc (by simp; omega) (.cells #[.int .i64 0,.string ⟨#[]⟩] 76)
 generalize ((w.alloc (.cells #[.int .i64 a,.string d] 76)).alloc _).alloc (.cells #[.int .i64 0,.string ⟨#[]⟩] 76)=w1 at *
 refine (P.out _).mono ?_
 rintro e w2 ⟨rfl,hb⟩
 have R2:=R0.keep hb R0.lt
 have X2:=X0.keep hb X0.lt
 have Y2:=Y0.keep hb Y0.lt
 replace hB:=hB.trans (hb.mono hB.size)
 clear R0 X0 Y0 hb P
 have c0:=X2.cellAt (i:=0) (by simp)
 have c1:=X2.cellAt (i:=1) (by simp)
 have b0:=Y2.cellAt (i:=0) (by simp)
 have b3:=Y2.cellAt (i:=3) (by simp)
 have b8:=Y2.cellAt (i:=8) (by simp)
 simp at c0 c1 b0 b3 b8
 go_wp2_with (refine wpList_store_row rfl 76 _ _ rfl (w.heap.size+1+1) _ rfl rfl 76 _ R2 (by kernel_rfl) (by simp) (by simp [Value.oneCell']) ?_)
 exact bodyPost_ret (results_cell_row rfl _ _ (w.heap.size+1+1) 76 _ (0,0) _ rfl (R2.setRow _) Tryz.underlying76 rfl (by kernel_rfl)) rfl ⟨rfl,below_setRow hB (by omega) _⟩
set_option maxHeartbeats 8000000 in
theorem pgRefApply_kind (hv:IsRec w v r) (h:PgOk a d) (hc:¬ Chg r) :
 Calls Tryz.prog 92 #[.agg #[.int .i64 a,.string d],.int .i64 x,v] w fun e w'=>e=.returned (.agg #[.int .i64 a,.string d])∧Below w.heap.size w w':=by
 have P:=Lib.hid (fun W=>pgRefRight_any a d W true (by simp [h]))
 have k1:(r.kind != 1)=true:=by simp; exact fun h1=>hc (.inl h1)
 have k2:(r.kind != 2)=true:=by simp; exact fun h1=>hc (.inr h1)
 clear h hc
 obtain ⟨vt,vp,rfl,hl⟩:=hv
 obtain ⟨ta,tc,e⟩:=hl.t.form
 subst e
 obtain ⟨pa,pc,e⟩:=hl.p.form
 subst e
 clear hl
 unfold recV recCells at *
 go_enter Tryz.func92,Tryz.ntmps92
 go_wp2_with fail
 have X0:=((Blk.new w 76 #[.int .i64 a,.string d]).alloc (.cells #[.int .i64 r.kind,.int .i64 r.txn,.int .i64 r.page,.int .i64 r.off,.int .i64 r.prev,.int .i64 r.next,.int .i64 r.beg,.string r.before,.string r.after,.slice ta r.txns.length tc,.slice pa r.pages.length pc] 46)).alloc (.cells #[.int .i64 0,.string ⟨#[]⟩] 76)
 have Y0:=(Blk.new (w.alloc (.cells #[.int .i64 a,.string d] 76)) 46 #[.int .i64 r.kind,.int .i64 r.txn,.int .i64 r.page,.int .i64 r.off,.int .i64 r.prev,.int .i64 r.next,.int .i64 r.beg,.string r.before,.string r.after,.slice ta r.txns.length tc,.slice pa r.pages.length pc]).alloc (.cells #[.int .i64 0,.string ⟨#[]⟩] 76)
 have R0:=Blk.new ((w.alloc (.cells #[.int .i64 a,.string d] 76)).alloc (.cells #[.int .i64 r.kind,.int .i64 r.txn,.int .i64 r.page,.int .i64 r.off,.int .i64 r.prev,.int .i64 r.next,.int .i64 r.beg,.string r.before,.string r.after,.slice ta r.txns.length tc,.slice pa r.pages.length pc] 46)) 76 #[.int .i64 0,.string ⟨#[]⟩]
 simp only [World.size_alloc] at R0 Y0
 have hB:=(((Below.refl w.heap.size w).alloc (Nat.le_refl _) (.cells #[.int .i64 a,.string d] 76)).alloc (by simp) (.cells #[.int .i64 r.kind,.int .i64 r.txn,.int .i64 r.page,.int .i64 r.off,.int .i64 r.prev,.int .i64 r.next,.int .i64 r.beg,.string r.before,.string r.after,.slice ta r.txns.length tc,.slice pa r.pages.length pc] 46)).alloc (by simp; omega) (.cells #[.int .i64 0,.string ⟨#[]⟩] 76)
 generalize ((w.alloc (.cells #[.int .i64 a,.string d] 76)).alloc _).alloc (.cells #[.int .i64 0,.string ⟨#[]⟩] 76)=w1 at *
 refine (P.out _).mono ?_
 rintro e w2 ⟨rfl,hb⟩
 have R2:=R0.keep hb R0.lt
 have X2:=X0.keep hb X0.lt
 have Y2:=Y0.keep hb Y0.lt
 replace hB:=hB.trans (hb.mono hB.size)
 clear R0 X0 Y0 hb P
 have c0:=X2.cellAt (i:=0) (by simp)
 have c1:=X2.cellAt (i:=1) (by simp)
 have b0:=Y2.cellAt (i:=0) (by simp)
 have b3:=Y2.cellAt (i:=3) (by simp)
 have b8:=Y2.cellAt (i:=8) (by simp)
 simp at c0 c1 b0 b3 b8
 go_wp2_with (refine wpList_store_row rfl 76 _ _ rfl (w.heap.size+1+1) _ rfl rfl 76 _ R2 (by kernel_rfl) (by simp) (by simp [Value.oneCell']) ?_)
 exact bodyPost_ret (results_cell_row rfl _ _ (w.heap.size+1+1) 76 _ (0,0) _ rfl (R2.setRow _) Tryz.underlying76 rfl (by kernel_rfl)) rfl ⟨rfl,below_setRow hB (by omega) _⟩
set_option maxHeartbeats 8000000 in
theorem pgRefApply_old (hv:IsRec w v r) (h:PgOk a d) (hc:Chg r) (hx:¬ a < x) :
 Calls Tryz.prog 92 #[.agg #[.int .i64 a,.string d],.int .i64 x,v] w fun e w'=>e=.returned (.agg #[.int .i64 a,.string d])∧Below w.heap.size w w':=by
 have P:=Lib.hid (fun W=>pgRefRight_any a d W true (by simp [h]))
 have hx':x≤a:=by omega
 have hC:=Lib.hid hc
 clear h hx hc
 obtain ⟨vt,vp,rfl,hl⟩:=hv
 obtain ⟨ta,tc,e⟩:=hl.t.form
 subst e
 obtain ⟨pa,pc,e⟩:=hl.p.form
 subst e
 clear hl
 unfold recV recCells at *
 go_enter Tryz.func92,Tryz.ntmps92
 go_wp2_with fail
 have X0:=((Blk.new w 76 #[.int .i64 a,.string d]).alloc (.cells #[.int .i64 r.kind,.int .i64 r.txn,.int .i64 r.page,.int .i64 r.off,.int .i64 r.prev,.int .i64 r.next,.int .i64 r.beg,.string r.before,.string r.after,.slice ta r.txns.length tc,.slice pa r.pages.length pc] 46)).alloc (.cells #[.int .i64 0,.string ⟨#[]⟩] 76)
 have Y0:=(Blk.new (w.alloc (.cells #[.int .i64 a,.string d] 76)) 46 #[.int .i64 r.kind,.int .i64 r.txn,.int .i64 r.page,.int .i64 r.off,.int .i64 r.prev,.int .i64 r.next,.int .i64 r.beg,.string r.before,.string r.after,.slice ta r.txns.length tc,.slice pa r.pages.length pc]).alloc (.cells #[.int .i64 0,.string ⟨#[]⟩] 76)
 have R0:=Blk.new ((w.alloc (.cells #[.int .i64 a,.string d] 76)).alloc (.cells #[.int .i64 r.kind,.int .i64 r.txn,.int .i64 r.page,.int .i64 r.off,.int .i64 r.prev,.int .i64 r.next,.int .i64 r.beg,.string r.before,.string r.after,.slice ta r.txns.length tc,.slice pa r.pages.length pc] 46)) 76 #[.int .i64 0,.string ⟨#[]⟩]
 simp only [World.size_alloc] at R0 Y0
 have hB:=(((Below.refl w.heap.size w).alloc (Nat.le_refl _) (.cells #[.int .i64 a,.string d] 76)).alloc (by simp) (.cells #[.int .i64 r.kind,.int .i64 r.txn,.int .i64 r.page,.int .i64 r.off,.int .i64 r.prev,.int .i64 r.next,.int .i64 r.beg,.string r.before,.string r.after,.slice ta r.txns.length tc,.slice pa r.pages.length pc] 46)).alloc (by simp; omega) (.cells #[.int .i64 0,.string ⟨#[]⟩] 76)
 generalize ((w.alloc (.cells #[.int .i64 a,.string d] 76)).alloc _).alloc (.cells #[.int .i64 0,.string ⟨#[]⟩] 76)=w1 at *
 refine (P.out _).mono ?_
 rintro e w2 ⟨rfl,hb⟩
 have R2:=R0.keep hb R0.lt
 have X2:=X0.keep hb X0.lt
 have Y2:=Y0.keep hb Y0.lt
 replace hB:=hB.trans (hb.mono hB.size)
 clear R0 X0 Y0 hb P
 have c0:=X2.cellAt (i:=0) (by simp)
 have c1:=X2.cellAt (i:=1) (by simp)
 have b0:=Y2.cellAt (i:=0) (by simp)
 have b3:=Y2.cellAt (i:=3) (by simp)
 have b8:=Y2.cellAt (i:=8) (by simp)
 simp at c0 c1 b0 b3 b8
 rcases hC.out with k | k
 ·have k1:(r.kind != 1)=false:=by simp [k]
  have k2:(r.kind != 2)=true:=by simp [k]
  clear k
  go_wp2_with (refine wpList_store_row rfl 76 _ _ rfl (w.heap.size+1+1) _ rfl rfl 76 _ R2 (by kernel_rfl) (by simp) (by simp [Value.oneCell']) ?_)
  exact bodyPost_ret (results_cell_row rfl _ _ (w.heap.size+1+1) 76 _ (0,0) _ rfl (R2.setRow _) Tryz.underlying76 rfl (by kernel_rfl)) rfl ⟨rfl,below_setRow hB (by omega) _⟩
 ·have k1:(r.kind != 1)=true:=by simp [k]
  have k2:(r.kind != 2)=false:=by simp [k]
  clear k
  go_wp2_with (refine wpList_store_row rfl 76 _ _ rfl (w.heap.size+1+1) _ rfl rfl 76 _ R2 (by kernel_rfl) (by simp) (by simp [Value.oneCell']) ?_)
  exact bodyPost_ret (results_cell_row rfl _ _ (w.heap.size+1+1) 76 _ (0,0) _ rfl (R2.setRow _) Tryz.underlying76 rfl (by kernel_rfl)) rfl ⟨rfl,below_setRow hB (by omega) _⟩
set_option maxHeartbeats 8000000 in
theorem pgRefApply_go (hv:IsRec w v r) (h:PgOk a d) (hc:Chg r) (hx:a < x) (A:Int) (D:ByteArray) (E:Int) (hp:putR a d r.off r.after x=(A,D,E)) :
 Calls Tryz.prog 92 #[.agg #[.int .i64 a,.string d],.int .i64 x,v] w fun e w'=>e=.returned (if E=0 then .agg #[.int .i64 A,.string D] else .agg #[.int .i64 a,.string d])∧Below w.heap.size w w':=by
 have P:=Lib.hid (fun W=>pgRefRight_any a d W true (by simp [h]))
 have PP:=Lib.hid (fun W=>pgRefPut_any a r.off x d r.after W)
 rw [hp] at PP
 have hC:=Lib.hid hc
 clear h hp hc
 obtain ⟨vt,vp,rfl,hl⟩:=hv
 obtain ⟨ta,tc,e⟩:=hl.t.form
 subst e
 obtain ⟨pa,pc,e⟩:=hl.p.form
 subst e
 clear hl
 unfold recV recCells at *
 go_enter Tryz.func92,Tryz.ntmps92
 go_wp2_with fail
 have X0:=((Blk.new w 76 #[.int .i64 a,.string d]).alloc (.cells #[.int .i64 r.kind,.int .i64 r.txn,.int .i64 r.page,.int .i64 r.off,.int .i64 r.prev,.int .i64 r.next,.int .i64 r.beg,.string r.before,.string r.after,.slice ta r.txns.length tc,.slice pa r.pages.length pc] 46)).alloc (.cells #[.int .i64 0,.string ⟨#[]⟩] 76)
 have Y0:=(Blk.new (w.alloc (.cells #[.int .i64 a,.string d] 76)) 46 #[.int .i64 r.kind,.int .i64 r.txn,.int .i64 r.page,.int .i64 r.off,.int .i64 r.prev,.int .i64 r.next,.int .i64 r.beg,.string r.before,.string r.after,.slice ta r.txns.length tc,.slice pa r.pages.length pc]).alloc (.cells #[.int .i64 0,.string ⟨#[]⟩] 76)
 have R0:=Blk.new ((w.alloc (.cells #[.int .i64 a,.string d] 76)).alloc (.cells #[.int .i64 r.kind,.int .i64 r.txn,.int .i64 r.page,.int .i64 r.off,.int .i64 r.prev,.int .i64 r.next,.int .i64 r.beg,.string r.before,.string r.after,.slice ta r.txns.length tc,.slice pa r.pages.length pc] 46)) 76 #[.int .i64 0,.string ⟨#[]⟩]
 simp only [World.size_alloc] at R0 Y0
 have hB:=(((Below.refl w.heap.size w).alloc (Nat.le_refl _) (.cells #[.int .i64 a,.string d] 76)).alloc (by simp) (.cells #[.int .i64 r.kind,.int .i64 r.txn,.int .i64 r.page,.int .i64 r.off,.int .i64 r.prev,.int .i64 r.next,.int .i64 r.beg,.string r.before,.string r.after,.slice ta r.txns.length tc,.slice pa r.pages.length pc] 46)).alloc (by simp; omega) (.cells #[.int .i64 0,.string ⟨#[]⟩] 76)
 generalize ((w.alloc (.cells #[.int .i64 a,.string d] 76)).alloc _).alloc (.cells #[.int .i64 0,.string ⟨#[]⟩] 76)=w1 at *
 refine (P.out _).mono ?_
 rintro e w2 ⟨rfl,hb⟩
 have R2:=R0.keep hb R0.lt
 have X2:=X0.keep hb X0.lt
 have Y2:=Y0.keep hb Y0.lt
 replace hB:=hB.trans (hb.mono hB.size)
 clear R0 X0 Y0 hb P
 have c0:=X2.cellAt (i:=0) (by simp)
 have c1:=X2.cellAt (i:=1) (by simp)
 have b0:=Y2.cellAt (i:=0) (by simp)
 have b3:=Y2.cellAt (i:=3) (by simp)
 have b8:=Y2.cellAt (i:=8) (by simp)
 simp at c0 c1 b0 b3 b8
 rcases hC.out with k | k
 ·have k1:(r.kind != 1)=false:=by simp [k]
  have k2:(r.kind != 2)=true:=by simp [k]
  clear k
  go_wp2_with fail
  refine (PP.out _).mono ?_
  rintro e w5 ⟨rfl,hb⟩
  replace R2:=R2.keep hb R2.lt
  replace X2:=X2.keep hb X2.lt
  replace hB:=hB.trans (hb.mono hB.size)
  clear Y2 hb PP c0 c1 b0 b3 b8 hx k1 k2
  have N0:=Blk.new w5 76 #[.int .i64 0,.string ⟨#[]⟩]
  have N1:=N0.setRow #[.int .i64 A,.string D]
  have R6:=(R2.alloc (.cells #[.int .i64 0,.string ⟨#[]⟩] 76)).farRow (k:=w5.heap.size) (by have:=R2.lt; omega) #[.int .i64 A,.string D]
  have X6:=(X2.alloc (.cells #[.int .i64 0,.string ⟨#[]⟩] 76)).farRow (k:=w5.heap.size) (by have:=X2.lt; omega) #[.int .i64 A,.string D]
  have hB6:=below_setRow (hB.alloc hB.size (.cells #[.int .i64 0,.string ⟨#[]⟩] 76)) (g:=w5.heap.size) hB.size #[.int .i64 A,.string D]
  go_upto_region 4 with (refine wpList_store_row rfl 76 _ _ rfl w5.heap.size _ rfl rfl 76 _ N0 (by kernel_rfl) (by simp) (by simp [Value.oneCell']) ?_)
  clear N0 R2 X2 hB
  generalize (w5.alloc _).setRow _ _=w6 at *
  generalize w5.heap.size=g at *
  by_cases hE:E=0
  ·have h1:(E != 0)=false:=by simp [hE]
   have n0:=N1.cellAt (i:=0) (by simp)
   have n1:=N1.cellAt (i:=1) (by simp)
   simp at n0 n1
   have HE:=Lib.hid hE
   clear hE
   go_wp2_with (refine wpList_store_row rfl 76 _ _ rfl (w.heap.size+1+1) _ rfl rfl 76 _ R6 (by kernel_rfl) (by simp) (by simp [Value.oneCell']) ?_)
   exact bodyPost_ret (results_cell_row rfl _ _ (w.heap.size+1+1) 76 _ (0,0) _ rfl (R6.setRow _) Tryz.underlying76 rfl (by kernel_rfl)) rfl ⟨by first | rfl | rw [if_pos HE.out],below_setRow hB6 (by omega) _⟩
  ·have h1:(E != 0)=true:=by simp [hE]
   have c0:=X6.cellAt (i:=0) (by simp)
   have c1:=X6.cellAt (i:=1) (by simp)
   simp at c0 c1
   have HE:=Lib.hid hE
   clear hE N1
   go_wp2_with (refine wpList_store_row rfl 76 _ _ rfl (w.heap.size+1+1) _ rfl rfl 76 _ R6 (by kernel_rfl) (by simp) (by simp [Value.oneCell']) ?_)
   exact bodyPost_ret (results_cell_row rfl _ _ (w.heap.size+1+1) 76 _ (0,0) _ rfl (R6.setRow _) Tryz.underlying76 rfl (by kernel_rfl)) rfl ⟨by first | rfl | rw [if_neg HE.out],below_setRow hB6 (by omega) _⟩
 ·have k1:(r.kind != 1)=true:=by simp [k]
  have k2:(r.kind != 2)=false:=by simp [k]
  clear k
  go_wp2_with fail
  refine (PP.out _).mono ?_
  rintro e w5 ⟨rfl,hb⟩
  replace R2:=R2.keep hb R2.lt
  replace X2:=X2.keep hb X2.lt
  replace hB:=hB.trans (hb.mono hB.size)
  clear Y2 hb PP c0 c1 b0 b3 b8 hx k1 k2
  have N0:=Blk.new w5 76 #[.int .i64 0,.string ⟨#[]⟩]
  have N1:=N0.setRow #[.int .i64 A,.string D]
  have R6:=(R2.alloc (.cells #[.int .i64 0,.string ⟨#[]⟩] 76)).farRow (k:=w5.heap.size) (by have:=R2.lt; omega) #[.int .i64 A,.string D]
  have X6:=(X2.alloc (.cells #[.int .i64 0,.string ⟨#[]⟩] 76)).farRow (k:=w5.heap.size) (by have:=X2.lt; omega) #[.int .i64 A,.string D]
  have hB6:=below_setRow (hB.alloc hB.size (.cells #[.int .i64 0,.string ⟨#[]⟩] 76)) (g:=w5.heap.size) hB.size #[.int .i64 A,.string D]
  go_upto_region 4 with (refine wpList_store_row rfl 76 _ _ rfl w5.heap.size _ rfl rfl 76 _ N0 (by kernel_rfl) (by simp) (by simp [Value.oneCell']) ?_)
  clear N0 R2 X2 hB
  generalize (w5.alloc _).setRow _ _=w6 at *
  generalize w5.heap.size=g at *
  by_cases hE:E=0
  ·have h1:(E != 0)=false:=by simp [hE]
   have n0:=N1.cellAt (i:=0) (by simp)
   have n1:=N1.cellAt (i:=1) (by simp)
   simp at n0 n1
   have HE:=Lib.hid hE
   clear hE
   go_wp2_with (refine wpList_store_row rfl 76 _ _ rfl (w.heap.size+1+1) _ rfl rfl 76 _ R6 (by kernel_rfl) (by simp) (by simp [Value.oneCell']) ?_)
   exact bodyPost_ret (results_cell_row rfl _ _ (w.heap.size+1+1) 76 _ (0,0) _ rfl (R6.setRow _) Tryz.underlying76 rfl (by kernel_rfl)) rfl ⟨by first | rfl | rw [if_pos HE.out],below_setRow hB6 (by omega) _⟩
  ·have h1:(E != 0)=true:=by simp [hE]
   have c0:=X6.cellAt (i:=0) (by simp)
   have c1:=X6.cellAt (i:=1) (by simp)
   simp at c0 c1
   have HE:=Lib.hid hE
   clear hE N1
   go_wp2_with (refine wpList_store_row rfl 76 _ _ rfl (w.heap.size+1+1) _ rfl rfl 76 _ R6 (by kernel_rfl) (by simp) (by simp [Value.oneCell']) ?_)
   exact bodyPost_ret (results_cell_row rfl _ _ (w.heap.size+1+1) 76 _ (0,0) _ rfl (R6.setRow _) Tryz.underlying76 rfl (by kernel_rfl)) rfl ⟨by first | rfl | rw [if_neg HE.out],below_setRow hB6 (by omega) _⟩
theorem pgRefApply_any (hv:IsRec w v r) :
 Calls Tryz.prog 92 #[.agg #[.int .i64 a,.string d],.int .i64 x,v] w fun e w'=>e=.returned (.agg #[.int .i64 (applyR a d x r).1,.string (applyR a d x r).2])∧Below w.heap.size w w':=by
 by_cases h0:PgOk a d
 ·by_cases hc:Chg r
  ·by_cases hx:a < x
   ·refine (pgRefApply_go a x d hv h0 hc hx (putR a d r.off r.after x).1 (putR a d r.off r.after x).2.1 (putR a d r.off r.after x).2.2 rfl).mono ?_
    rintro e w' ⟨rfl,hb⟩
    refine ⟨?_,hb⟩
    unfold applyR
    by_cases hE:(putR a d r.off r.after x).2.2=0
    · rw [if_pos hE,if_pos ⟨hc,hx,hE⟩]
    · rw [if_neg hE,if_neg fun h'=>hE h'.2.2]
   ·have e:applyR a d x r=(a,d):=if_neg fun h'=>hx h'.2.1
    rw [e]
    exact pgRefApply_old a x d hv h0 hc hx
  ·have e:applyR a d x r=(a,d):=if_neg fun h'=>hc h'.1
   rw [e]
   exact pgRefApply_kind a x d hv h0 hc
 ·have e:applyR a d x r=(a,d):=if_neg fun h'=>by
   have h2:=h'.2.2
   unfold putR at h2
   rw [if_neg h0] at h2
   cases h2
  rw [e]
  exact pgRefApply_form a x d hv h0
end
end Go.Proofs.YthkbcfhjmnpggaaGreat

namespace Go.Proofs.YthkbcfhjmnpggaaGreat
namespace Ch
section
variable {l:List En} {t p s:Int}
end
namespace Log
variable {l:List En} {t last at0:Int} {U:List Rc}
end Log
end Ch
end Go.Proofs.YthkbcfhjmnpggaaGreat

namespace Go.Proofs.YthkbcfhjmnpggaaGreat
open Go.RowKit
def entCells (p:Int) (r:Rc) (vt vp:Value):Array Value :=
 #[.int .i64 p,.int .i64 r.kind,.int .i64 r.txn,.int .i64 r.page,.int .i64 r.off,.int .i64 r.prev,.int .i64 r.next,.int .i64 r.beg,.string r.before,.string r.after,vt,vp]
def entV (p:Int) (r:Rc) (vt vp:Value):Value:=.agg (entCells p r vt vp)
end Go.Proofs.YthkbcfhjmnpggaaGreat

namespace Go.Proofs.YthkbcfhjmnpggaaGreat
open Go.RowKit
theorem threeBox (w:World) (a b c:Array Value) (ta tb tc:TypeId):let w':=((w.alloc (.cells a ta)).alloc (.cells b tb)).alloc (.cells c tc)
 Below w.heap.size w w'∧Blk w' w.heap.size ta a∧Blk w' (w.heap.size+1) tb b∧Blk w' (w.heap.size+1+1) tc c:=by
 refine ⟨(((Below.refl _ _).alloc (Nat.le_refl _) _).alloc (by simp) _).alloc (by simp; omega) _,((Blk.new w ta a).alloc _).alloc _,?_,?_⟩
 ·have:=(Blk.new (w.alloc (.cells a ta)) tb b).alloc (.cells c tc)
  rwa [World.size_alloc] at this
 ·have:=Blk.new ((w.alloc (.cells a ta)).alloc (.cells b tb)) tc c
  rwa [World.size_alloc,World.size_alloc] at this
section
set_option maxRecDepth 100000
set_option maxHeartbeats 8000000
theorem apP_wrong {a:Int} {d:ByteArray} (h:¬ PgOk a d) (x:Int) (r:Rc):Hs.apP (a,d) x r=(a,d):=if_neg fun k=>h k.2.2.1
theorem rdBehind_any {w:World} (a:Int) (d:ByteArray) (x:Int) (r:Rc) (vt vp:Value) (hl:Lists w r vt vp) (hs:r.after.size≤maxLen) :
 Calls Tryz.prog 89 #[.agg #[.int .i64 a,.string d],entV x r vt vp] w fun e w'=>e=.returned (.agg #[.int .i64 (Hs.apP (a,d) x r).1,.string (Hs.apP (a,d) x r).2])∧Below w.heap.size w w':=by
 have RT:=Lib.hid (fun W=>pgRight_any (w:=W) (a:=a) (d:=d) _ rfl)
 obtain ⟨ta,tc,rfl⟩:=hl.t.form
 obtain ⟨pa,pc,rfl⟩:=hl.p.form
 obtain ⟨hB,X0,E0,R0⟩:=threeBox w #[.int .i64 a,.string d] (entCells x r (.slice ta r.txns.length tc) (.slice pa r.pages.length pc)) #[.int .i64 0,.string ⟨#[]⟩] 76 108 76
 have HS:=Lib.hid hs
 have HL:=Lib.hid hl
 have HW:=Lib.hid (fun h=>apP_wrong (a:=a) (d:=d) h x r)
 have AP:Hid (∀ W,Below w.heap.size w W→PgOk a d→Calls Tryz.prog 116 #[.agg #[.int .i64 a,.string d],.int .i64 x,recV r (.slice ta r.txns.length tc) (.slice pa r.pages.length pc)] W fun e w'=>e=.returned (.agg #[.int .i64 (Hs.apP (a,d) x r).1,.string (Hs.apP (a,d) x r).2])∧Below W.heap.size W w'):=fun W hW hok=>by
  have:=pgApply_any a x d (r:=r) (w:=W) ⟨_,_,rfl,HL.out.keep hW⟩ (by rw [hok.2]; omega) HS.out
  rwa [applyR_P] at this
 unfold recV recCells at AP
 unfold entCells at hB X0 E0 R0
 unfold entV entCells
 clear hl hs
 generalize Hs.apP (a,d) x r=q at *
 obtain ⟨A,D⟩:=q
 simp only at *
 go_enter Tryz.func89,Tryz.ntmps89
 go_upto_region 1 with fail
 generalize ((w.alloc _).alloc _).alloc _=w1 at *
 have c0:=X0.cellAt (i:=0) (by simp)
 have c1:=X0.cellAt (i:=1) (by simp)
 simp at c0 c1
 by_cases hok:PgOk a d
 ·have hd:=decide_eq_true hok
  have HOK:=Lib.hid hok
  rw [hd] at RT
  clear HW hok hd
  go_wp2_with fail
  refine (RT.out _).mono ?_
  rintro e w2 ⟨rfl,hb⟩
  replace X0:=X0.keep hb X0.lt
  replace E0:=E0.keep hb E0.lt
  replace R0:=R0.keep hb R0.lt
  replace hB:=below2 hB hb
  clear hb c0 c1 RT
  have c0:=X0.cellAt (i:=0) (by simp)
  have c1:=X0.cellAt (i:=1) (by simp)
  have d0:=E0.cell 0
  have d1:=E0.cell 1
  have d2:=E0.cell 2
  have d3:=E0.cell 3
  have d4:=E0.cell 4
  have d5:=E0.cell 5
  have d6:=E0.cell 6
  have d7:=E0.cell 7
  have d8:=E0.cell 8
  have d9:=E0.cell 9
  have d10:=E0.cell 10
  have d11:=E0.cell 11
  simp only [List.getElem?_toArray,List.getElem?_cons_zero,List.getElem?_cons_succ] at d0 d1 d2 d3 d4 d5 d6 d7 d8 d9 d10 d11
  simp at c0 c1
  have C:=Lib.hid (AP.out _ hB HOK.out)
  have HB:=Lib.hid hB
  clear AP hB HL HS X0 E0
  go_wp2_with fail
  refine C.out.mono ?_
  rintro e w3 ⟨rfl,hb⟩
  replace R0:=R0.keep hb R0.lt
  have HB3:=Lib.hid (below2 HB.out hb)
  clear hb c0 c1 d0 d1 d2 d3 d4 d5 d6 d7 d8 d9 d10 d11 C HB
  go_wp2_with (refine wpList_store_row rfl 76 _ _ rfl (w.heap.size+1+1) _ rfl rfl 76 _ R0 (by kernel_rfl) (by simp) (by simp [Value.oneCell']) ?_)
  exact bodyPost_ret (results_cell_row rfl _ _ (w.heap.size+1+1) 76 _ (0,0) _ rfl (R0.setRow _) Tryz.underlying76 rfl (by kernel_rfl)) rfl ⟨rfl,below_setRow HB3.out (by omega) _⟩
 ·have hd:=decide_eq_false hok
  have HQ:=Lib.hid (HW.out hok)
  rw [hd] at RT
  clear HW hok hd AP HL HS
  go_wp2_with fail
  refine (RT.out _).mono ?_
  rintro e w2 ⟨rfl,hb⟩
  replace X0:=X0.keep hb X0.lt
  replace R0:=R0.keep hb R0.lt
  have HB:=Lib.hid (below2 hB hb)
  clear hb c0 c1 RT hB E0
  have c0:=X0.cellAt (i:=0) (by simp)
  have c1:=X0.cellAt (i:=1) (by simp)
  simp at c0 c1
  clear X0
  go_wp2_with (refine wpList_store_row rfl 76 _ _ rfl (w.heap.size+1+1) _ rfl rfl 76 _ R0 (by kernel_rfl) (by simp) (by simp [Value.oneCell']) ?_)
  refine bodyPost_ret (results_cell_row rfl _ _ (w.heap.size+1+1) 76 _ (0,0) _ rfl (R0.setRow _) Tryz.underlying76 rfl (by kernel_rfl)) rfl ⟨?_,below_setRow HB.out (by omega) _⟩
  have:=HQ.out
  simp only [Prod.mk.injEq] at this
  obtain ⟨rfl,rfl⟩:=this
  rfl
end
end Go.Proofs.YthkbcfhjmnpggaaGreat

namespace Go.Proofs.YthkbcfhjmnpggaaGreat
open Go.RowKit
section
set_option maxRecDepth 100000
set_option maxHeartbeats 8000000
end
end Go.Proofs.YthkbcfhjmnpggaaGreat

namespace Go.Proofs.YthkbcfhjmnpggaaGreat
open Go.RowKit
theorem EntsAt.whole {w:World} {a:Option Addr} {l:List Ent} (h:EntsAt w a l) (j:Nat) (hj:j < l.length):∃ b off vt vp,a=some ⟨b,off,none⟩∧b < w.heap.size∧Lists w l[j].2 vt vp ∧
 ∀ i x,(entCells l[j].1 l[j].2 vt vp)[i]? = some x→w.cell? ⟨b,off+j*12+i,none⟩=some x:=by
 obtain ⟨b,off,vt,vp,e,lt,c0,ci,hl⟩:=h j hj
 refine ⟨b,off,vt,vp,e,lt,hl,fun i x hi=>?_⟩
 cases i with
 | zero=>cases hi; exact c0
 | succ i =>
   have:=ci i x (by
    have:(entCells l[j].1 l[j].2 vt vp)[i+1]? = (recCells l[j].2 vt vp)[i]?:=by
     rw [← Array.getElem?_toList,← Array.getElem?_toList]; rfl
    rw [← this]; exact hi)
   rwa [show off+j*12+(i+1)=off+j*12+1+i by omega]
end Go.Proofs.YthkbcfhjmnpggaaGreat

namespace Go.Proofs.YthkbcfhjmnpggaaGreat
open Go.RowKit
section
set_option maxRecDepth 100000
set_option maxHeartbeats 16000000
end
end Go.Proofs.YthkbcfhjmnpggaaGreat

namespace Go.Proofs.YthkbcfhjmnpggaaGreat
open Go.RowKit
section
set_option maxRecDepth 100000
set_option maxHeartbeats 16000000
theorem rdOne_any {w:World} {v:Value} {L:List Ent} (n:Int) (hL:IsEnts w v L) (hz:∀ x ∈ L,x.2.after.size≤maxLen) :
 Calls Tryz.prog 61 #[v,.int .i64 n] w fun e w'=>e=.returned (.agg #[.int .i64 (Hs.oneL L n).1,.string (Hs.oneL L n).2])∧Below w.heap.size w w':=by
 obtain ⟨a,cap,rfl,hl1,hl2,hx⟩:=hL
 unfold maxLen at hl2
 have EM:=Lib.hid pgEmpty_any
 have HX:=Lib.hid hx
 have HZ:=Lib.hid hz
 clear hx hz
 have R0:=Blk.new w 76 #[.int .i64 0,.string ⟨#[]⟩]
 have hB:=(Below.refl w.heap.size w).alloc (Nat.le_refl _) (.cells #[.int .i64 0,.string ⟨#[]⟩] 76)
 go_enter Tryz.func61,Tryz.ntmps61
 go_wp2_with fail
 generalize w.alloc _=w1 at *
 refine (EM.out _).mono ?_
 rintro e w2 ⟨rfl,hb⟩
 replace R0:=R0.keep hb R0.lt
 have hB2:=hB.trans (hb.mono hB.size)
 have N0:=Blk.new w2 76 #[.int .i64 0,.string ⟨#[]⟩]
 have P0:=N0.setRow #[.int .i64 0,.string noughts]
 have R1:=(R0.alloc (.cells #[.int .i64 0,.string ⟨#[]⟩] 76)).farRow (k:=w2.heap.size) (by have:=R0.lt; omega) #[.int .i64 0,.string noughts]
 have HB3:=Lib.hid (below_setRow (hB2.alloc hB2.size (.cells #[.int .i64 0,.string ⟨#[]⟩] 76)) (g:=w2.heap.size) hB2.size #[.int .i64 0,.string noughts])
 have hgp:=hB2.size
 have hne:w.heap.size≠w2.heap.size:=by have:=R0.lt; omega
 have HNE:=Lib.hid hne
 clear hB2 hB hb EM R0 hne
 go_upto_region 2 with (refine wpList_store_row rfl 76 _ _ rfl w2.heap.size _ rfl rfl 76 _ N0 (by kernel_rfl) (by simp) (by simp [Value.oneCell']) ?_)
 clear N0
 change Code.wp _ _ _ _ ((w2.alloc (.cells #[.int .i64 0,.string ⟨#[]⟩] 76)).setRow w2.heap.size #[.int .i64 0,.string noughts])
 generalize (w2.alloc _).setRow _ _=w3 at *
 generalize w2.heap.size=gp at *
 have HGP:=Lib.hid hgp
 clear hgp
 go_wp2_with fail
 go_loopw [11] (fun vk wr=>∃ k:Nat,vk=.int .i64 k∧k≤L.length∧Below w.heap.size w wr∧Blk wr gp 76 #[.int .i64 (Hs.oneL (L.take k) n).1,.string (Hs.oneL (L.take k) n).2]∧Blk wr w.heap.size 76 #[.int .i64 0,.string ⟨#[]⟩]) (fun vk _=>L.length - (intOf vk).toNat)
 case atStart=>exact ⟨0,rfl,Nat.zero_le _,HB3.out,P0,R1⟩
 case round =>
  obtain ⟨k,rfl,hk,hB,hP,hR⟩:=hrel
  clear HB3 P0 R1
  have HB:=Lib.hid hB
  clear hB
  by_cases hlt:k < L.length
  ·have HLT:=Lib.hid hlt
   have hkI:(k:Int) < L.length:=by omega
   have hm:L[k] ∈ L:=List.getElem_mem hlt
   obtain ⟨b,off,vt,vp,rfl,lt1,la,ci⟩:=(EntsAt.keep HX.out HB.out).whole k hlt
   have HZR:=Lib.hid (HZ.out _ hm)
   have HTK:=Lib.hid (Hs.one_take hlt n)
   clear hm
   generalize L[k]=x at *
   clear hlt
   obtain ⟨at_,r⟩:=x
   simp only at la ci HZR
   obtain ⟨q,hq⟩:∃ q:Hs.Pge,q=Hs.oneL (L.take k) n:=⟨_,rfl⟩
   rw [← hq] at hP HTK
   clear hq
   obtain ⟨q1,q2⟩:=q
   obtain ⟨ta,tc,rfl⟩:=la.t.form
   obtain ⟨pa,pc,rfl⟩:=la.p.form
   have c0:wr.cell? ⟨b,off+k*12+0,none⟩=_:=ci 0 _ rfl
   have c1:wr.cell? ⟨b,off+k*12+1,none⟩=_:=ci 1 _ rfl
   have c2:wr.cell? ⟨b,off+k*12+2,none⟩=_:=ci 2 _ rfl
   have c3:wr.cell? ⟨b,off+k*12+3,none⟩=_:=ci 3 _ rfl
   have c4:wr.cell? ⟨b,off+k*12+4,none⟩=_:=ci 4 _ rfl
   have c5:wr.cell? ⟨b,off+k*12+5,none⟩=_:=ci 5 _ rfl
   have c6:wr.cell? ⟨b,off+k*12+6,none⟩=_:=ci 6 _ rfl
   have c7:wr.cell? ⟨b,off+k*12+7,none⟩=_:=ci 7 _ rfl
   have c8:wr.cell? ⟨b,off+k*12+8,none⟩=_:=ci 8 _ rfl
   have c9:wr.cell? ⟨b,off+k*12+9,none⟩=_:=ci 9 _ rfl
   have c10:wr.cell? ⟨b,off+k*12+10,none⟩=_:=ci 10 _ rfl
   have c11:wr.cell? ⟨b,off+k*12+11,none⟩=_:=ci 11 _ rfl
   rw [Nat.add_zero] at c0
   clear ci
   have hn:=Blk.new wr 108 #[.int .i64 0,.int .i64 0,.int .i64 0,.int .i64 0,.int .i64 0,.int .i64 0,.int .i64 0,.int .i64 0,.string ⟨#[]⟩,.string ⟨#[]⟩,.slice none 0 0,.slice none 0 0]
   have N3:=hn.setRow (entCells at_ r (.slice ta r.txns.length tc) (.slice pa r.pages.length pc))
   have hb3:=below_setRow ((Below.refl wr.heap.size wr).alloc (Nat.le_refl _) (.cells #[.int .i64 0,.int .i64 0,.int .i64 0,.int .i64 0,.int .i64 0,.int .i64 0,.int .i64 0,.int .i64 0,.string ⟨#[]⟩,.string ⟨#[]⟩,.slice none 0 0,.slice none 0 0] 108)) (Nat.le_refl _) (entCells at_ r (.slice ta r.txns.length tc) (.slice pa r.pages.length pc))
   have HL3:=Lib.hid (la.keep hb3)
   have P3:=hP.keep hb3 hP.lt
   have R3:=hR.keep hb3 hR.lt
   have HB3:=Lib.hid (below2 HB.out hb3)
   clear hb3 hP hR HB la
   go_upto_region 5 with (refine wpList_store_row rfl 108 _ _ rfl wr.heap.size _ rfl rfl 108 _ hn (by kernel_rfl) rfl (by simp [entCells,Value.oneCell']) ?_)
   change Code.wp _ _ _ _ ((wr.alloc (.cells #[.int .i64 0,.int .i64 0,.int .i64 0,.int .i64 0,.int .i64 0,.int .i64 0,.int .i64 0,.int .i64 0,.string ⟨#[]⟩,.string ⟨#[]⟩,.slice none 0 0,.slice none 0 0] 108)).setRow wr.heap.size (entCells at_ r (.slice ta r.txns.length tc) (.slice pa r.pages.length pc)))
   clear hn c0 c1 c2 c3 c4 c5 c6 c7 c8 c9 c10 c11 lt1
   generalize (wr.alloc _).setRow _ _=w4 at *
   generalize wr.heap.size=y at *
   have d3:w4.cell? ⟨y,3,none⟩=some (.int .i64 r.page):=N3.cell 3
   by_cases hpn:r.page=n
   ·have HST:=Lib.hid (HTK.out.trans (if_pos hpn))
    have C:=Lib.hid (rdBehind_any q1 q2 at_ r _ _ HL3.out HZR.out)
    have HPN:=Lib.hid hpn
    clear HL3 HTK
    unfold entV at C
    go_upto_region 6 with fail
    clear d3 hpn
    have p0:=P3.cellAt (i:=0) (by simp)
    have p1:=P3.cellAt (i:=1) (by simp)
    simp at p0 p1
    have HB4:=Lib.hid HB3.out
    unfold entCells at C N3
    go_wp2_with (refine wpList_load_row rfl 108 _ rfl y rfl 108 _ (0,0) _ N3 Tryz.underlying108 rfl (by kernel_rfl) ?_)
    refine C.out.mono ?_
    rintro e w5 ⟨rfl,hb⟩
    have P5:=P3.keep hb P3.lt
    have R5:=(R3.keep hb R3.lt).farRow (k:=gp) HNE.out #[.int .i64 (Hs.apP (q1,q2) at_ r).1,.string (Hs.apP (q1,q2) at_ r).2]
    have HB5:=Lib.hid (below_setRow (g:=gp) (below2 HB4.out hb) HGP.out #[.int .i64 (Hs.apP (q1,q2) at_ r).1,.string (Hs.apP (q1,q2) at_ r).2])
    clear hb N3 P3 R3 HB3 HB4 C p0 p1
    go_wp2_with (refine wpList_store_row rfl 76 _ _ rfl gp _ rfl rfl 76 _ P5 (by kernel_rfl) rfl (by simp [Value.oneCell']) ?_)
    exact ⟨⟨k+1,by go_num,HLT.out,HB5.out,by rw [HST.out]; exact P5.setRow _,R5⟩,by simp [intOf]; have:=HLT.out; omega⟩
   ·have HST:=Lib.hid (HTK.out.trans (if_neg hpn))
    clear HL3 HTK N3
    go_wp2
    exact ⟨⟨k+1,by go_num,HLT.out,HB3.out,by rw [HST.out]; exact P3,R3⟩,by simp [intOf]; have:=HLT.out; omega⟩
  ·obtain rfl:k=L.length:=by omega
   rw [List.take_length] at hP
   obtain ⟨q1,q2,hq⟩:∃ q1 q2,Hs.oneL L n=(q1,q2):=⟨_,_,rfl⟩
   rw [hq] at hP
   have HQ:=Lib.hid hq
   clear hq
   have p0:=hP.cellAt (i:=0) (by simp)
   have p1:=hP.cellAt (i:=1) (by simp)
   simp at p0 p1
   clear hP
   go_wp2_with (refine wpList_store_row rfl 76 _ _ rfl w.heap.size _ rfl rfl 76 _ hR (by kernel_rfl) (by simp) (by simp [Value.oneCell']) ?_)
   exact bodyPost_ret (results_cell_row rfl _ _ w.heap.size 76 _ (0,0) _ rfl (hR.setRow _) Tryz.underlying76 rfl (by kernel_rfl)) rfl ⟨by rw [HQ.out],below_setRow HB.out (Nat.le_refl _) _⟩
end
end Go.Proofs.YthkbcfhjmnpggaaGreat

namespace Go.Proofs.YthkbcfhjmnpggaaGreat
open Go.RowKit
def Tp.page (t:Tp) (l:Wl) (n:Int):Hs.Pge:=if t.upto < l.low then (0,⟨#[]⟩) else Hs.oneL (t.whole l) n
set_option maxRecDepth 100000 in
set_option maxHeartbeats 4000000 in
theorem tapePage_bad {w:World} {g:Option Addr} {v:Value} {er:Int} (n:Int) (hr2:∀ W,Below w.heap.size w W→Calls Tryz.prog 49 #[.pointer g,v] W fun e w'=>e=.returned (.tuple #[.slice none 0 0,.int .i64 er])∧W=w') (he:er=10∨er=11) :
 Calls Tryz.prog 27 #[.pointer g,v,.int .i64 n] w fun e w'=>e=.returned (.tuple #[.agg #[.int .i64 0,.string ⟨#[]⟩],.int .i64 er])∧Below w.heap.size w w':=by
 have hbr:=Blk.new w 76 #[.int .i64 0,.string ⟨#[]⟩]
 have K:=Lib.hid (hr2 _ ((Below.refl w.heap.size w).alloc (Nat.le_refl _) (.cells #[.int .i64 0,.string ⟨#[]⟩] 76)))
 clear hr2
 rcases he with rfl | rfl
 all_goals
  go_enter Tryz.func27,Tryz.ntmps27
  go_wp2_with fail
  refine K.out.mono ?_
  rintro e w1 ⟨rfl,rfl⟩
  go_wp2_with (refine wpList_store_row rfl 76 _ _ rfl w.heap.size _ rfl rfl 76 _ hbr (by kernel_rfl) rfl (by simp [Value.oneCell']) ?_)
  refine bodyPost_ret (results_row_tmp rfl _ _ w.heap.size 76 #[.int .i64 0,.string ⟨#[]⟩] _ rfl (hbr.setRow _) Tryz.underlying76 rfl (by kernel_rfl)) rfl ?_
  exact ⟨rfl,below_setRow ((Below.refl _ _).alloc (Nat.le_refl _) _) (Nat.le_refl _) _⟩
section
variable {w:World} {F FL:Foot} {g gl gd:Nat} {t:Tp} {l:Wl}
set_option maxRecDepth 100000 in
set_option maxHeartbeats 4000000 in
theorem tapePage_ok (hT:IsTp w F g t) (hL:IsLog w FL gl gd l) (hlow:l.low≤t.upto) (hlen:t.l.length≤40000000) (n:Int) :
 Calls Tryz.prog 27 #[.pointer (some ⟨g,0,none⟩),.pointer (some ⟨gl,0,none⟩),.int .i64 n] w fun e w'=>e=.returned (.tuple #[.agg #[.int .i64 (Hs.oneL (t.whole l) n).1,.string (Hs.oneL (t.whole l) n).2],.int .i64 0])∧Below w.heap.size w w':=by
 have hbr:=Blk.new w 76 #[.int .i64 0,.string ⟨#[]⟩]
 have hb0:=(Below.refl w.heap.size w).alloc (Nat.le_refl _) (.cells #[.int .i64 0,.string ⟨#[]⟩] 76)
 have REST:=Lib.hid (rest_ok (hT.below hb0) (hL.below hb0) hlow)
 have HWH:Hid (t.whole l=t.l++t.behind l):=if_neg (by omega)
 have HCNT:Hid ((t.behind l).length≤7168):=Nat.le_trans (List.length_filter_le _ _) (Wl.all_count hL.1)
 have HMAY:Hid (∀ x ∈ t.whole l,x.2.after.size≤maxLen):=fun x hx=>by
  rw [HWH.out] at hx
  have hf:Fit x.2:=by
   rcases List.mem_append.1 hx with hx | hx
   · exact hT.1.fit x hx
   · exact (Wl.all_may hL.1 x (List.mem_filter.1 hx).1).fit
  have:=hf.after
  unfold maxLen
  omega
 obtain ⟨tok,v,q,r⟩:=hT
 have HR:=Lib.hid (r.below hb0)
 have hqn:q.length≤40000000:=by
  have e:=congrArg List.length r.ents
  rw [List.length_map] at e
  omega
 obtain ⟨va,vc,hv⟩:=own_slice r.own.own
 have HB0:=Lib.hid hb0
 clear r hL tok hlen hlow hb0
 subst hv
 go_enter Tryz.func27,Tryz.ntmps27
 go_wp2_with fail
 refine REST.out.mono ?_
 rintro e w1 ⟨vr,qr,rfl,hqr,hor,hb1,-⟩
 have hnr:qr.length≤7168:=by
  have e:=congrArg List.length hqr
  rw [List.length_map] at e
  have:=HCNT.out
  omega
 have B1:=hbr.keep hb1 hbr.lt
 have HR1:=Lib.hid (HR.out.below hb1)
 have c1:=HR1.out.cells.2
 obtain ⟨ra,rc,hvr⟩:=own_slice hor.own
 subst hvr
 have hb2:Below w1.heap.size w1 (w1.alloc (.cells #[.slice va q.length vc,.slice ra qr.length rc] 40)):=(Below.refl _ _).alloc (Nat.le_refl _) _
 have CON:=Lib.hid (concat_any (HR1.out.own.keep hb2) (hor.keep hb2) hqn (by omega) (Blk.new w1 40 #[.slice va q.length vc,.slice ra qr.length rc]))
 have B2:=B1.keep hb2 B1.lt
 have HB2:=Lib.hid (below2 (below2 HB0.out hb1) hb2)
 have HE:Hid ((q++qr).map Qe.ent=t.whole l):=by rw [Hid,List.map_append,HR1.out.ents,hqr,HWH.out]
 clear hqr hor hb1 hb2 B1 HR HR1 REST hbr HB0
 go_wp2_with fail
 refine CON.out.mono ?_
 rintro e w3 ⟨v3,rfl,ho3,hb3⟩
 have ONE:=Lib.hid (rdOne_any n (by have:=ho3.isEnts; rw [HE.out] at this; exact this) HMAY.out)
 have B3:=B2.keep hb3 B2.lt
 have HB3:=Lib.hid (below2 HB2.out hb3)
 obtain ⟨a3,c3,hv3⟩:=own_slice ho3.own
 obtain ⟨N3,hN3⟩:∃ N:Nat,(q++qr).length=N:=⟨_,rfl⟩
 rw [hN3] at hv3
 clear hN3
 clear ho3 hb3 HB2 B2 CON c1
 subst hv3
 go_wp2_with fail
 refine ONE.out.mono ?_
 rintro e w4 ⟨rfl,hb4⟩
 have B4:=B3.keep hb4 B3.lt
 have HB4:=Lib.hid (below2 HB3.out hb4)
 clear hb4 HB3 B3 ONE
 generalize hP:Hs.oneL (t.whole l) n=P at *
 have HP:=Lib.hid hP
 clear hP
 go_wp2_with (refine wpList_store_row rfl 76 _ _ rfl w.heap.size _ rfl rfl 76 _ B4 (by kernel_rfl) rfl (by simp [Value.oneCell']) ?_)
 refine bodyPost_ret (results_row_tmp rfl _ _ w.heap.size 76 #[.int .i64 P.1,.string P.2] _ rfl (B4.setRow _) Tryz.underlying76 rfl (by kernel_rfl)) rfl ?_
 refine ⟨?_,below_setRow HB4.out (Nat.le_refl _) _⟩
 rw [HP.out]
 rfl
theorem tapePage_any (hT:IsTp w F g t) (hL:IsLog w FL gl gd l) (hlen:t.l.length≤40000000) (n:Int) :
 Calls Tryz.prog 27 #[.pointer (some ⟨g,0,none⟩),.pointer (some ⟨gl,0,none⟩),.int .i64 n] w fun e w'=>e=.returned (.tuple #[.agg #[.int .i64 (t.page l n).1,.string (t.page l n).2],.int .i64 (t.err l)])∧Below w.heap.size w w':=by
 by_cases h:t.upto < l.low
 ·have e1:t.page l n=(0,⟨#[]⟩):=if_pos h
  have e2:t.err l=11:=if_pos h
  rw [e1,e2]
  exact tapePage_bad n (fun W hW=>rest_state (hT.below hW) (hL.below hW) h) (.inr rfl)
 ·have e1:t.page l n=Hs.oneL (t.whole l) n:=if_neg h
  have e2:t.err l=0:=if_neg h
  rw [e1,e2]
  exact tapePage_ok hT hL (by omega) hlen n
end
end Go.Proofs.YthkbcfhjmnpggaaGreat

namespace Go.Proofs.YthkbcfhjmnpggaaGreat
open Go.RowKit
end Go.Proofs.YthkbcfhjmnpggaaGreat

namespace Go.Proofs.YthkbcfhjmnpggaaGreat
open Go.ChangeShapes Go.WideShapes Go.RowKit
set_option maxRecDepth 100000
end Go.Proofs.YthkbcfhjmnpggaaGreat

namespace Go.Proofs.YthkbcfhjmnpggaaGreat
open Go.RowKit
theorem Recs12.at_ {w:World} {a:Option Addr} {L:List Ent} (h:EntsAt w a L) (k:Nat) (hk:k < L.length):∃ b off ta tc pa pc,a=some ⟨b,off,none⟩∧b < w.heap.size ∧
 Lists w L[k].2 (.slice ta L[k].2.txns.length tc) (.slice pa L[k].2.pages.length pc)∧w.cell? ⟨b,off+k*12,none⟩=some (.int .i64 L[k].1) ∧
 ∀ i x,(recCells L[k].2 (.slice ta L[k].2.txns.length tc) (.slice pa L[k].2.pages.length pc))[i]? = some x→w.cell? ⟨b,off+k*12+1+i,none⟩=some x:=by
 obtain ⟨b,off,vt,vp,e,lt,c0,ci,hl⟩:=h k hk
 obtain ⟨ta,tc,rfl⟩:=hl.t.form
 obtain ⟨pa,pc,rfl⟩:=hl.p.form
 exact ⟨b,off,ta,tc,pa,pc,e,lt,hl,c0,ci⟩
section
set_option maxRecDepth 100000
set_option maxHeartbeats 16000000
end
end Go.Proofs.YthkbcfhjmnpggaaGreat

namespace Go.Proofs.YthkbcfhjmnpggaaGreat
open Go.RowKit
set_option maxRecDepth 100000 in
set_option maxHeartbeats 2000000 in
theorem pgRefEmpty_any (w:World):Calls Tryz.prog 91 #[] w fun e w'=>e=.returned (.agg #[.int .i64 0,.string noughts])∧Below w.heap.size w w':=by
 have hmk:(Instr.makeSlice 47 (.int .i64 220) (.int .i64 220)).run Tryz.prog (w.alloc (.cells #[.int .i64 0,.string ⟨#[]⟩] 76))=.ok (.slice (some ⟨w.heap.size+1,0,none⟩) 220 220) ((w.alloc (.cells #[.int .i64 0,.string ⟨#[]⟩] 76)).alloc (.cells (bytesV (List.replicate 220 0)) 5)):=by
  obtain ⟨i,hi,hz,hs1,hs2⟩:∃ i,Tryz.prog.info? 5=some i∧i.zero=some (.int .u8 0)∧i.size=1∧i.bytes=1:=by
   have h:(Tryz.prog.info? 5).map (fun i=>(i.zero,i.size,i.bytes))=some (some (.int .u8 0),1,1):=by kernel_rfl
   obtain ⟨i,hi,he⟩:=Option.map_eq_some_iff.1 h
   simp only [Prod.mk.injEq] at he
   exact ⟨i,hi,he.1,he.2.1,he.2.2⟩
  have h:=run_make (P:=Tryz.prog) (w.alloc (.cells #[.int .i64 0,.string ⟨#[]⟩] 76)) 47 5 i (.int .u8 0) Tryz.underlying47 hi hz .i64 .i64 220 220 (by omega) (by omega) (by rw [hs2]; omega) (by omega)
  rw [hs1] at h
  have e:madeCells (Value.int .u8 0).cells ((220:Int).toNat*1)=bytesV (List.replicate 220 0):=by kernel_rfl
  rw [e] at h
  simpa using h
 have B0:=Blk.new (w.alloc (.cells #[.int .i64 0,.string ⟨#[]⟩] 76)) 5 (bytesV (List.replicate 220 0))
 simp only [World.size_alloc] at B0
 have hcv:=conv_blk B0 0 220 220 (by simp) 47 5 9 Tryz.underlying47 Tryz.underlying5 Tryz.underlying9
 rw [List.drop_zero,List.take_of_length_le (by simp)] at hcv
 have R0:=(Blk.new w 76 #[.int .i64 0,.string ⟨#[]⟩]).alloc (.cells (bytesV (List.replicate 220 0)) 5)
 have hB:=Lib.hid (((Below.refl w.heap.size w).alloc (Nat.le_refl _) (.cells #[.int .i64 0,.string ⟨#[]⟩] 76)).alloc (by simp) (.cells (bytesV (List.replicate 220 0)) 5))
 clear B0
 generalize bytesV (List.replicate 220 0)=cs at *
 go_enter Tryz.func91,Tryz.ntmps91
 go_wp2_with (refine wpList_store_row rfl 76 _ _ rfl w.heap.size _ rfl rfl 76 _ R0 (by kernel_rfl) (by simp) (by simp [Value.oneCell']) ?_)
 exact bodyPost_ret (results_cell_row rfl _ _ w.heap.size 76 _ (0,0) _ rfl (R0.setRow _) Tryz.underlying76 rfl (by kernel_rfl)) rfl ⟨rfl,below_setRow hB.out (Nat.le_refl _) _⟩
end Go.Proofs.YthkbcfhjmnpggaaGreat
