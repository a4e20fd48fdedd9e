/- Texts that belong together, joined: TaX, TaY. -/
import Derived.Test.YthkbcfhjmnpggaaGreatK41
import Derived.Test.YthkbcfhjmnpggaaGreatK22
import Derived.Deep.DeepCutAuto
import Derived.Deep.CutBlock
namespace Go.Proofs.YthkbcfhjmnpggaaGreat
open Go.RowKit
set_option maxRecDepth 100000 in
set_option maxHeartbeats 16000000 in
theorem tapePlays_bad (n:Int) (v:Value) (p:Int) (w:World) (hn:n < 8∨64 < n) :
 Calls Tryz.prog 3 #[.int .i64 n,v,.int .i64 p] w fun e w'=>e=.returned (.bool true)∧Below w.heap.size w w':=by
 have NB:=Lib.hid (fun W gd=>logNew_bad (w:=W) gd 0 n hn)
 have RB:=Lib.hid (fun W gd=>rlNew_bad (w:=W) gd 0 n hn)
 clear hn
 go_enter Tryz.func3,Tryz.ntmps3
 go_wp2_with fail
 refine (new_ok 64 w (by omega) (by omega)).mono ?_
 rintro e w1 ⟨gd,FD,rfl,-,-,hb1⟩
 have L1:=Lib.hid hb1
 clear hb1
 go_wp2_with fail
 refine (refNew_any 64 w1 (by omega)).mono ?_
 rintro e w2 ⟨hd,GD,rfl,-,-,hb2⟩
 have L2:=Lib.hid (below2 L1.out hb2)
 clear hb2 L1
 go_wp2_with fail
 refine (NB.out _ _).mono ?_
 rintro e w3 ⟨rfl,rfl⟩
 go_wp2_with fail
 refine (RB.out _ _).mono ?_
 rintro e w3 ⟨rfl,rfl⟩
 clear NB RB
 go_wp2_with fail
 refine (awake15_any _).mono ?_
 rintro e w3 ⟨rfl,hb3⟩
 have L3:=Lib.hid (below2 L2.out hb3)
 clear hb3 L2
 go_wp2_with fail
 refine (awake15_any _).mono ?_
 rintro e w5 ⟨rfl,hb5⟩
 have L5:=Lib.hid (below2 L3.out hb5)
 clear hb5 L3
 go_wp2
 go_ret
 exact ⟨rfl,L5.out⟩
set_option maxRecDepth 100000 in
set_option maxHeartbeats 16000000 in
theorem tapePlays_long (N:Nat) (h8:8≤N) (h64:N≤64) (v:Value) (ops:List OpT) (p:Int) (w:World) (hv:IsOpsT w v ops) (hlong:isLongT ops) :
 Calls Tryz.prog 3 #[.int .i64 N,v,.int .i64 p] w fun e w'=>e=.returned (.bool true)∧Below w.heap.size w w':=by
 have LG:=Lib.hid (fun W (hW:Below w.heap.size w W)=>longT_any v ops W (hv.keep hW) true (by simp [hlong]))
 have H8:=Lib.hid (And.intro h8 h64)
 obtain ⟨a,cap,rfl,h1,h2,_⟩:=hv
 clear h1 h2 hlong h8 h64
 go_enter Tryz.func3,Tryz.ntmps3
 go_wp2_with fail
 refine (new_ok 64 w (by omega) (by omega)).mono ?_
 rintro e w1 ⟨gd,FD,rfl,hd,-,hb1⟩
 have L1:=Lib.hid hb1
 have HD:=Lib.hid hd
 clear hb1 hd
 go_wp2_with fail
 refine (refNew_any 64 w1 (by omega)).mono ?_
 rintro e w2 ⟨hd,GD,rfl,hr,-,hb2⟩
 have L2:=Lib.hid (below2 L1.out hb2)
 have HD2:=Lib.hid (HD.out.below hb2)
 have HR:=Lib.hid hr
 clear hb2 L1 HD hr
 go_wp2_with fail
 refine (logNew_ok HD2.out 0 N H8.out.1 H8.out.2 (by have:=H8.out.2; simp [Dk.new]; omega)).mono ?_
 rintro e w3 ⟨g,rfl,-,-,hb3⟩
 have L3:=Lib.hid (below2 L2.out hb3)
 have HR3:=Lib.hid (HR.out.below hb3)
 clear hb3 L2 HD2 HR
 go_wp2_with fail
 refine (rlNew_ok HR3.out (Dk.Ok.new (by omega) (by omega)) 0 N H8.out.1 H8.out.2 (by have:=H8.out.2; simp [Dk.new]; omega)).mono ?_
 rintro e w4 ⟨h,rfl,-,-,hb4⟩
 have L4:=Lib.hid (below2 L3.out hb4)
 clear hb4 L3 HR3
 go_wp2_with fail
 refine (awake15_any _).mono ?_
 rintro e w5 ⟨rfl,hb5⟩
 have L5:=Lib.hid (below2 L4.out hb5)
 clear hb5 L4
 go_wp2_with fail
 refine (LG.out _ L5.out).mono ?_
 rintro e w6 ⟨rfl,hb6⟩
 have L6:=Lib.hid (below2 L5.out hb6)
 clear hb6 L5 LG
 go_wp2_with fail
 refine (awake15_any _).mono ?_
 rintro e w7 ⟨rfl,hb7⟩
 have L7:=Lib.hid (below2 L6.out hb7)
 clear hb7 L6
 go_wp2
 go_ret
 exact ⟨rfl,L7.out⟩
end Go.Proofs.YthkbcfhjmnpggaaGreat

namespace Go.Proofs.YthkbcfhjmnpggaaGreat
open Go.RowKit
theorem Tp.addN_le (t:Tp) {l:Wl} (ok:l.Ok):t.addN l≤7168:=by
 unfold Tp.addN
 split
 · omega
 ·unfold Tp.fresh Tp.behind
  exact Nat.le_trans (List.length_filter_le _ _) (Nat.le_trans (List.length_filter_le _ _) (Wl.all_count ok))
theorem Tp.add_len (t:Tp) {l:Wl} (ok:l.Ok):(t.add l).l.length≤t.l.length+7168:=by
 obtain ⟨m,h1,h2⟩:=Tp.add_l t l
 have:=t.addN_le ok
 rw [h1,List.length_append]
 omega
theorem Duo15.swap {w0 w:World} {F G:Foot} {g gd gt h hd ht g2:Nat} {D E:Dk} {l m:Wl} {t u t':Tp} (k:Duo15 w0 w F g gd gt D l t G h hd ht E m u) {F2:Foot} (hT:IsTp w F2 g2 t') (hn:∀ b,F2 b→w0.heap.size≤b) (ha:∀ b,F2 b→¬ F b) (hg:∀ b,F2 b→¬ G b) :
 ∃ F',Duo15 w0 w F' g gd g2 D l t' G h hd ht E m u:=by
 obtain ⟨F',k1,k2⟩:=k.a.swap hT hn ha
 exact ⟨F',k1,k.b,fun x hx hG=>(k2 x hx).elim (fun e=>k.ap x e hG) fun e=>hg x e hG,k.ng⟩
structure PlaysAt (w0 w:World) (N k:Nat) (F:Foot) (g gd gt:Nat) (G:Foot) (h hd ht:Nat) (D:Dk) (l:Wl) (t:Tp):Prop where
 duo:Duo15 w0 w F g gd gt D l t G h hd ht D l t
 keep:Keep15 D l N (2*k)
 len:t.l.length≤7168*k
namespace PlaysAt
variable {w0 w w':World} {N k:Nat} {F G F' G':Foot} {g gd gt h hd ht:Nat} {D:Dk} {l:Wl} {t:Tp}
theorem more (q:PlaysAt w0 w N k F g gd gt G h hd ht D l t) (hb:Below w.heap.size w w'):PlaysAt w0 w' N k F g gd gt G h hd ht D l t:=⟨q.duo.more hb,q.keep,q.len⟩
theorem below (q:PlaysAt w0 w N k F g gd gt G h hd ht D l t):Below w0.heap.size w0 w:=q.duo.a.below
theorem hlen (q:PlaysAt w0 w N k F g gd gt G h hd ht D l t) (hk:k≤201):t.l.length≤40000000:=by have:=q.len; omega
theorem hep (q:PlaysAt w0 w N k F g gd gt G h hd ht D l t) (hk:k≤201):l.epoch < 4294967296:=by have:=q.keep.le; omega
theorem hw (q:PlaysAt w0 w N k F g gd gt G h hd ht D l t) (hk:k≤201):D.waits.length≤1000000:=by have:=q.keep.ws; omega
theorem first (q:PlaysAt w0 w N k F g gd gt G h hd ht D l t) (hk:k≤201):l.first≤2147483647:=q.keep.first (by omega)
theorem appended {r:Rc} (q:PlaysAt w0 w N k F g gd gt G h hd ht D l t) (d:Duo15 w0 w' F' g gd gt D (l.app r).2.2 t G' h hd ht D (l.app r).2.2 t):PlaysAt w0 w' N (k+1) F' g gd gt G' h hd ht D (l.app r).2.2 t :=
 ⟨d,(q.keep.app r).mono (by omega),by have:=q.len; omega⟩
theorem flushed (q:PlaysAt w0 w N k F g gd gt G h hd ht D l t) (hk:k≤201) (d:Duo15 w0 w' F' g gd gt (l.flush D).1 (l.flush D).2.1 t G' h hd ht (l.flush D).1 (l.flush D).2.1 t):PlaysAt w0 w' N (k+1) F' g gd gt G' h hd ht (l.flush D).1 (l.flush D).2.1 t :=
 ⟨d,(q.keep.flush (by omega)).mono (by omega),by have:=q.len; omega⟩
theorem added (q:PlaysAt w0 w N k F g gd gt G h hd ht D l t) (d:Duo15 w0 w' F' g gd gt D l (t.add l) G' h hd ht D l (t.add l)):PlaysAt w0 w' N (k+1) F' g gd gt G' h hd ht D l (t.add l) :=
 ⟨d,q.keep.mono (by omega),by have:=q.len; have:=t.add_len q.keep.ok; omega⟩
theorem cutted (q:PlaysAt w0 w N k F g gd gt G h hd ht D l t) (x:Int) (hk:k≤201) (d:Duo15 w0 w' F' g gd gt D (l.cutI x) t G' h hd ht D (l.cutI x) t):PlaysAt w0 w' N (k+1) F' g gd gt G' h hd ht D (l.cutI x) t :=
 ⟨d,(q.keep.cut x (by omega)).mono (by omega),by have:=q.len; omega⟩
def crD (D:Dk) (l:Wl) (a:Int) (p:List UInt8):Dk:=(l.flush (D.arm a)).1.crash p
noncomputable def crL (D:Dk) (l:Wl) (a:Int) (p:List UInt8) (N:Nat):Wl:=Wl.opened (crD D l a p) 0 N (l.flush (D.arm a)).2.1.low
theorem keepArm (q:PlaysAt w0 w N k F g gd gt G h hd ht D l t) (a:Int) (ha:a < 9223372036854775808) (hk:k≤201):Keep15 (l.flush (D.arm a)).1 (l.flush (D.arm a)).2.1 N (2*k+1):=(q.keep.arm a ha).flush (by omega)
theorem crashed (q:PlaysAt w0 w N k F g gd gt G h hd ht D l t) {g' h' gt':Nat} (a:Int) (p:List UInt8) (ha:a < 9223372036854775808) (hk:k≤201) (h8:8≤N) (h64:N≤64)
 (d:Duo15 w0 w' F' g' gd gt' (crD D l a p) (crL D l a p N) t G' h' hd ht (crD D l a p) (crL D l a p N) t):PlaysAt w0 w' N (k+1) F' g' gd gt' G' h' hd ht (crD D l a p) (crL D l a p N) t :=
 ⟨d,((q.keepArm a ha hk).crash p (by omega) h8 h64).mono (by omega),by have:=q.len; omega⟩
theorem openable (q:PlaysAt w0 w N k F g gd gt G h hd ht D l t) (a:Int) (p:List UInt8) (ha:a < 9223372036854775808) (hk:k≤201) (h64:N≤64) :
 (crD D l a p).gone=false∧0+N≤(crD D l a p).safe.length∧1≤(l.flush (D.arm a)).2.1.low∧(l.flush (D.arm a)).2.1.low≤16777216:=by
 have K:=q.keepArm a ha hk
 refine ⟨rfl,?_,K.ok.l1,by have:=K.low; omega⟩
 show 0+N≤((l.flush (D.arm a)).1.settled _).length
 unfold Dk.settled
 rw [settleTo_len,K.len]
 omega
end PlaysAt
end Go.Proofs.YthkbcfhjmnpggaaGreat
