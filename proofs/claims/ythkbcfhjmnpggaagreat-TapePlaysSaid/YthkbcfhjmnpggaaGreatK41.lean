/- Texts that belong together, joined: TaW, LogN, RlN, TaH, Open, Ops15, Uint. -/
import Derived.Test.YthkbcfhjmnpggaaGreatK37
import Derived.Test.YthkbcfhjmnpggaaGreatK39
import Derived.Test.YthkbcfhjmnpggaaGreatK38
import Derived.Test.YthkbcfhjmnpggaaGreatK34
import Derived.Test.YthkbcfhjmnpggaaGreatK40
import Derived.Test.YthkbcfhjmnpggaaGreatK18
import Derived.Test.YthkbcfhjmnpggaaGreatK22
import Derived.Test.YthkbcfhjmnpggaaGreatK21
import Derived.Test.YthkbcfhjmnpggaaGreatK10
import Derived.ProofKit
import Derived.OpenShut
import Derived.Laws.FloatArith
import Derived.Test.YthkbcfhjmnpggaaGreatK11
import Derived.Test.YthkbcfhjmnpggaaGreatK00
import Derived.IntWalk
namespace Go.Proofs.YthkbcfhjmnpggaaGreat
open Go.RowKit
theorem Step.left {X X' Y:Foot} {w w':World} (h:Step X X' w w'):Step (fun b=>X b∨Y b) (fun b=>X' b∨Y b) w w' :=
 ⟨h.os,h.tape,h.output,h.size,fun b hb hf=>h.block b hb fun e=>hf (.inl e),fun b hb=>hb.elim (fun e=>(h.foot b e).elim (fun e=>.inl (.inl e)) .inr) fun e=>.inl (.inr e)⟩
theorem Step.right {X X' Y:Foot} {w w':World} (h:Step X X' w w'):Step (fun b=>Y b∨X b) (fun b=>Y b∨X' b) w w' :=
 ⟨h.os,h.tape,h.output,h.size,fun b hb hf=>h.block b hb fun e=>hf (.inr e),fun b hb=>hb.elim (fun e=>.inl (.inl e)) fun e=>(h.foot b e).elim (fun e=>.inl (.inr e)) .inr⟩
theorem Step.byBelow {F F':Foot} {w w':World} (h:Below w.heap.size w w') (hf:∀ b,F' b→F b∨w.heap.size≤b):Step F F' w w' :=
 ⟨h.os,h.tape,h.output,h.size,fun b hb _=>h.block b hb,hf⟩
def SideA (w0 w:World) (F:Foot) (g gd gt:Nat) (D:Dk) (l:Wl) (t:Tp):Prop :=
 ∃ FD FL FT,LiveT w0 w FD FL FT g gd gt D l t∧F=fun b=>Both FD FL b∨FT b
structure DocT (w:World) (GD GL GT:Foot) (h hd ht:Nat) (D:Dk) (l:Wl) (t:Tp):Prop where
 sys:SysR w GD GL h hd D l
 tape:IsRt w GT ht t
 apart:∀ b,GT b→¬ Both GD GL b
def SideB (w:World) (G:Foot) (h hd ht:Nat) (D:Dk) (l:Wl) (t:Tp):Prop :=
 ∃ GD GL GT,DocT w GD GL GT h hd ht D l t∧G=fun b=>Both GD GL b∨GT b
namespace SideA
variable {w0 w w':World} {F:Foot} {g gd gt:Nat} {D D':Dk} {l l':Wl} {t t':Tp}
theorem only (h:SideA w0 w F g gd gt D l t) {S:Nat→Prop} (hb:Only S w w') (hS:∀ b,F b→¬ S b) (hn:∀ b,S b→w0.heap.size≤b):SideA w0 w' F g gd gt D l t:=by
 obtain ⟨FD,FL,FT,k,rfl⟩:=h
 exact ⟨FD,FL,FT,⟨k.live.only hb (fun b hb=>hS b (.inl hb)) hn,k.tape.only hb fun b hb=>hS b (.inr hb),k.newT,k.apart⟩,rfl⟩
theorem more (h:SideA w0 w F g gd gt D l t) (hb:Below w.heap.size w w'):SideA w0 w' F g gd gt D l t:=by
 obtain ⟨FD,FL,FT,k,rfl⟩:=h
 exact ⟨FD,FL,FT,k.more hb,rfl⟩
theorem lt (h:SideA w0 w F g gd gt D l t):∀ b,F b→b < w.heap.size:=by
 obtain ⟨FD,FL,FT,k,rfl⟩:=h
 exact fun b hb=>hb.elim (k.lt b) (k.tape.lt b)
theorem below (h:SideA w0 w F g gd gt D l t):Below w0.heap.size w0 w:=by
 obtain ⟨FD,FL,FT,k,rfl⟩:=h
 exact k.live.below
theorem append {v:Value} {r:Rc} (h:SideA w0 w F g gd gt D l t) (hv:IsRec w v r) (hf:Fit r) :
 Calls Tryz.prog 11 #[.pointer (some ⟨g,0,none⟩),v] w fun e w'=>e=.returned (.tuple #[.int .i64 (l.app r).1,.int .i64 (l.app r).2.1])∧∃ F',SideA w0 w' F' g gd gt D (l.app r).2.2 t∧Step F F' w w':=by
 obtain ⟨FD,FL,FT,k,rfl⟩:=h
 exact (k.live.append hv hf).mono fun _ _ ⟨he,FL',hl,st⟩=>⟨he,_,⟨FD,FL',FT,k.log hl st,rfl⟩,st.left⟩
theorem flush (h:SideA w0 w F g gd gt D l t) (hep:l.epoch < 4294967296) (hw:D.waits.length≤1000000) :
 Calls Tryz.prog 13 #[.pointer (some ⟨g,0,none⟩)] w fun e w'=>e=.returned (.int .i64 (l.flush D).2.2)∧∃ F',SideA w0 w' F' g gd gt (l.flush D).1 (l.flush D).2.1 t∧Step F F' w w':=by
 obtain ⟨FD,FL,FT,k,rfl⟩:=h
 exact (k.live.flush hep hw).mono fun _ _ ⟨he,FD',hl,st⟩=>⟨he,_,⟨FD',FL,FT,k.log hl st,rfl⟩,st.left⟩
theorem arm (h:SideA w0 w F g gd gt D l t) (k:Int) (hk:k < 9223372036854775808) :
 Calls Tryz.prog 19 #[.pointer (some ⟨gd,0,none⟩),.int .i64 k] w fun e w'=>e=.returned (.tuple #[])∧∃ F',SideA w0 w' F' g gd gt (D.arm k) l t∧Step F F' w w':=by
 obtain ⟨FD,FL,FT,q,rfl⟩:=h
 exact (q.live.arm k hk).mono fun _ _ ⟨he,hl,st⟩=>⟨he,_,⟨FD,FL,FT,q.log hl st,rfl⟩,st.left⟩
theorem crash (h:SideA w0 w F g gd gt D l t) (v:Value) (p:List UInt8) (hr:Reads w v (byteVs p)) (hv:p≠[]→∀ b,v.ownBlock=some b→b < w0.heap.size) :
 Calls Tryz.prog 20 #[.pointer (some ⟨gd,0,none⟩),v] w fun e w'=>e=.returned (.tuple #[])∧∃ F',SideA w0 w' F' g gd gt (D.crash p) l t∧Step F F' w w':=by
 obtain ⟨FD,FL,FT,q,rfl⟩:=h
 exact (q.live.crash v p hr hv).mono fun _ _ ⟨he,hl,st⟩=>⟨he,_,⟨FD,FL,FT,q.log hl st,rfl⟩,st.left⟩
theorem cut (h:SideA w0 w F g gd gt D l t) (x:Int) (hs:l.first≤2147483647) :
 Calls Tryz.prog 17 #[.pointer (some ⟨g,0,none⟩),.int .i64 x] w fun e w'=>e=.returned (.int .i64 (l.cutE x))∧∃ F',SideA w0 w' F' g gd gt D (l.cutI x) t∧Step F F' w w':=by
 obtain ⟨FD,FL,FT,q,rfl⟩:=h
 exact (q.cut x hs).mono fun _ _ ⟨he,hl,st⟩=>⟨he,_,⟨FD,FL,FT,hl,rfl⟩,st.left⟩
theorem add (h:SideA w0 w F g gd gt D l t) (hlen:t.l.length≤40000000) :
 Calls Tryz.prog 15 #[.pointer (some ⟨gt,0,none⟩),.pointer (some ⟨g,0,none⟩)] w fun e w'=>e=.returned (.tuple #[.int .i64 (t.addN l),.int .i64 (t.err l)])∧∃ F',SideA w0 w' F' g gd gt D l (t.add l)∧Step F F' w w':=by
 obtain ⟨FD,FL,FT,q,rfl⟩:=h
 exact (q.add hlen).mono fun _ _ ⟨he,FT',hl,st⟩=>⟨he,_,⟨FD,FL,FT',hl,rfl⟩,st.right⟩
theorem open_ (h:SideA w0 w F g gd gt D l t) (hgone:D.gone=false) (base n low:Nat) (h8:8≤n) (h64:n≤64) (hb:base+n≤D.safe.length) (hl:1≤low) (hlm:low≤16777216) :
 Calls Tryz.prog 22 #[.pointer (some ⟨gd,0,none⟩),.int .i64 base,.int .i64 n,.int .i64 low] w fun e w'=>∃ g2 F',e=.returned (.tuple #[.pointer (some ⟨g2,0,none⟩),.int .i64 0])∧SideA w0 w' F' g2 gd gt D (Wl.opened D base n low) t∧Step F F' w w':=by
 obtain ⟨FD,FL,FT,q,rfl⟩:=h
 refine (q.live.open_ hgone base n low h8 h64 hb hl hlm).mono ?_
 rintro e w' ⟨g2,FL',he,hl,hF,hbel⟩
 have st:Step (Both FD FL) (Both FD FL') w w':=Step.byBelow hbel fun b hb=>hb.elim (fun e=>.inl (.inl e)) fun e=>.inr (hF b e)
 exact ⟨g2,_,he,⟨FD,FL',FT,q.log hl st,rfl⟩,st.left⟩
theorem copy (h:SideA w0 w F g gd gt D l t) :
 Calls Tryz.prog 24 #[.pointer (some ⟨gt,0,none⟩)] w fun e w'=>∃ g2 F2,e=.returned (.pointer (some ⟨g2,0,none⟩))∧IsTp w' F2 g2 t∧(∀ b,F2 b→w.heap.size≤b)∧SideA w0 w' F g gd gt D l t∧Below w.heap.size w w':=by
 obtain ⟨FD,FL,FT,q,rfl⟩:=h
 exact (tapeCopy_any q.tape).mono fun _ _ ⟨g2,F2,he,hT,hF,hbel⟩=>⟨g2,F2,he,hT,hF,⟨FD,FL,FT,q.more hbel,rfl⟩,hbel⟩
theorem swap (h:SideA w0 w F g gd gt D l t) {F2:Foot} {g2:Nat} (hT:IsTp w F2 g2 t') (hn:∀ b,F2 b→w0.heap.size≤b) (ha:∀ b,F2 b→¬ F b) :
 ∃ F',SideA w0 w F' g gd g2 D l t'∧∀ b,F' b→F b∨F2 b:=by
 obtain ⟨FD,FL,FT,q,rfl⟩:=h
 exact ⟨_,⟨FD,FL,F2,⟨q.live,hT,hn,fun b hb e=>ha b hb (.inl e)⟩,rfl⟩,fun b hb=>hb.elim (fun e=>.inl (.inl e)) .inr⟩
theorem whole (h:SideA w0 w F g gd gt D l t) (hlen:t.l.length≤40000000) :
 Calls Tryz.prog 25 #[.pointer (some ⟨gt,0,none⟩),.pointer (some ⟨g,0,none⟩)] w (EntsErr w (t.whole l) (t.err l)):=by
 obtain ⟨FD,FL,FT,q,rfl⟩:=h
 exact tapeWhole_any q.tape q.live.sys.log hlen
theorem page (h:SideA w0 w F g gd gt D l t) (hlen:t.l.length≤40000000) (n:Int) :
 Calls Tryz.prog 27 #[.pointer (some ⟨gt,0,none⟩),.pointer (some ⟨g,0,none⟩),.int .i64 n] w fun e w'=>e=.returned (.tuple #[.agg #[.int .i64 (t.page l n).1,.string (t.page l n).2],.int .i64 (t.err l)])∧Below w.heap.size w w':=by
 obtain ⟨FD,FL,FT,q,rfl⟩:=h
 exact tapePage_any q.tape q.live.sys.log hlen n
theorem upto (h:SideA w0 w F g gd gt D l t):Calls Tryz.prog 30 #[.pointer (some ⟨gt,0,none⟩)] w fun e w'=>e=.returned (.int .i64 t.upto)∧w=w':=by
 obtain ⟨FD,FL,FT,q,rfl⟩:=h
 exact upto_any q.tape
theorem list (h:SideA w0 w F g gd gt D l t):Calls Tryz.prog 31 #[.pointer (some ⟨gt,0,none⟩)] w (EntsOut w t.l):=by
 obtain ⟨FD,FL,FT,q,rfl⟩:=h
 exact tapeList_any q.tape
end SideA
namespace SideB
variable {w w':World} {G:Foot} {h hd ht:Nat} {D D':Dk} {l l':Wl} {t t':Tp}
theorem only (k:SideB w G h hd ht D l t) {S:Nat→Prop} (hb:Only S w w') (hS:∀ b,G b→¬ S b):SideB w' G h hd ht D l t:=by
 obtain ⟨GD,GL,GT,k,rfl⟩:=k
 exact ⟨GD,GL,GT,⟨⟨k.sys.disk.keep (fun b hF=>hb.block b (k.sys.disk.lt b hF) (hS b (.inl (.inl hF)))) hb.size,k.sys.dok,k.sys.log.keep (fun b hF=>hb.block b (k.sys.log.lt b hF) (hS b (.inl (.inr hF)))) hb.size,k.sys.apart⟩,k.tape.only hb fun b hb=>hS b (.inr hb),k.apart⟩,rfl⟩
theorem more (k:SideB w G h hd ht D l t) (hb:Below w.heap.size w w'):SideB w' G h hd ht D l t:=by
 obtain ⟨GD,GL,GT,k,rfl⟩:=k
 exact ⟨GD,GL,GT,⟨k.sys.more hb,k.tape.below hb,k.apart⟩,rfl⟩
theorem lt (k:SideB w G h hd ht D l t):∀ b,G b→b < w.heap.size:=by
 obtain ⟨GD,GL,GT,k,rfl⟩:=k
 exact fun b hb=>hb.elim (fun e=>e.elim (k.sys.disk.lt b) (k.sys.log.lt b)) (k.tape.lt b)
end SideB
namespace DocT
variable {w w':World} {GD GL GT GD' GL' GT':Foot} {h hd ht:Nat} {D D':Dk} {l l':Wl} {t t':Tp}
theorem log (k:DocT w GD GL GT h hd ht D l t) {h':Nat} (hl:SysR w' GD' GL' h' hd D' l') (st:Step (Both GD GL) (Both GD' GL') w w'):DocT w' GD' GL' GT h' hd ht D' l' t :=
 ⟨hl,k.tape.only (S:=Both GD GL) ⟨st.os,st.tape,st.output,st.size,st.block⟩ k.apart,fun b hb hf=>(st.foot b hf).elim (k.apart b hb) fun hg=>by have:=k.tape.lt b hb; omega⟩
end DocT
namespace SideB
variable {w w':World} {G:Foot} {h hd ht:Nat} {D D':Dk} {l l':Wl} {t t':Tp}
theorem append {v:Value} {r:Rc} (k:SideB w G h hd ht D l t) (hv:IsRec w v r) (hf:Fit r) :
 Calls Tryz.prog 12 #[.pointer (some ⟨h,0,none⟩),v] w fun e w'=>e=.returned (.tuple #[.int .i64 (l.app r).1,.int .i64 (l.app r).2.1])∧∃ G',SideB w' G' h hd ht D (l.app r).2.2 t∧Step G G' w w':=by
 obtain ⟨GD,GL,GT,k,rfl⟩:=k
 exact (rlAppend_any k.sys.log hv hf).mono fun _ _ ⟨he,GL',hl,st⟩=>⟨he,_,⟨GD,GL',GT,k.log (k.sys.onLog hl st).1 (k.sys.onLog hl st).2,rfl⟩,(k.sys.onLog hl st).2.left⟩
theorem flush (k:SideB w G h hd ht D l t) (hep:l.epoch < 4294967296) (hw:D.waits.length≤1000000) :
 Calls Tryz.prog 14 #[.pointer (some ⟨h,0,none⟩)] w fun e w'=>e=.returned (.int .i64 (l.flush D).2.2)∧∃ G',SideB w' G' h hd ht (l.flush D).1 (l.flush D).2.1 t∧Step G G' w w':=by
 obtain ⟨GD,GL,GT,k,rfl⟩:=k
 exact (rlFlush_any k.sys hep hw).mono fun _ _ ⟨he,GD',GL',hl,st⟩=>⟨he,_,⟨GD',GL',GT,k.log hl st,rfl⟩,st.left⟩
theorem crash (k:SideB w G h hd ht D l t) (v:Value) (p:List UInt8) (hr:Reads w v (byteVs p)) (hv:p≠[]→∀ b,v.ownBlock=some b→¬ G b) :
 Calls Tryz.prog 21 #[.pointer (some ⟨hd,0,none⟩),v] w fun e w'=>e=.returned (.tuple #[])∧∃ G',SideB w' G' h hd ht (D.crash p) l t∧Step G G' w w':=by
 obtain ⟨GD,GL,GT,k,rfl⟩:=k
 refine (refCrash_any k.sys.dok k.sys.disk v p hr fun hp b hb hF=>hv hp b hb (.inl (.inl hF))).mono ?_
 rintro e w' ⟨he,hD,st⟩
 obtain ⟨k1,k2⟩:=k.sys.onDisk hD (k.sys.dok.crash p) st
 exact ⟨he,_,⟨GD,GL,GT,k.log k1 k2,rfl⟩,k2.left⟩
theorem cut (k:SideB w G h hd ht D l t) (x:Int) (hs:l.first≤2147483647) :
 Calls Tryz.prog 18 #[.pointer (some ⟨h,0,none⟩),.int .i64 x] w fun e w'=>e=.returned (.int .i64 (l.cutE x))∧∃ G',SideB w' G' h hd ht D (l.cutI x) t∧Step G G' w w':=by
 obtain ⟨GD,GL,GT,k,rfl⟩:=k
 exact (rlCut_any k.sys.log x hs).mono fun _ _ ⟨he,GL',hl,st⟩=>⟨he,_,⟨GD,GL',GT,k.log (k.sys.onLog hl st).1 (k.sys.onLog hl st).2,rfl⟩,(k.sys.onLog hl st).2.left⟩
theorem add (k:SideB w G h hd ht D l t) (hlen:t.l.length≤40000000) :
 Calls Tryz.prog 16 #[.pointer (some ⟨ht,0,none⟩),.pointer (some ⟨h,0,none⟩)] w fun e w'=>e=.returned (.tuple #[.int .i64 (t.addN l),.int .i64 (t.err l)])∧∃ G',SideB w' G' h hd ht D l (t.add l)∧Step G G' w w':=by
 obtain ⟨GD,GL,GT,k,rfl⟩:=k
 refine (rtAdd_any k.tape k.sys.log (fun b hb e=>k.apart b hb (.inr e)) hlen).mono ?_
 rintro e w' ⟨he,GT',hT,st⟩
 have hon:Only GT w w':=⟨st.os,st.tape,st.output,st.size,st.block⟩
 exact ⟨he,_,⟨GD,GL,GT',⟨⟨k.sys.disk.keep (fun b hF=>hon.block b (k.sys.disk.lt b hF) fun e=>k.apart b e (.inl hF)) hon.size,k.sys.dok,k.sys.log.keep (fun b hF=>hon.block b (k.sys.log.lt b hF) fun e=>k.apart b e (.inr hF)) hon.size,k.sys.apart⟩,hT,fun b hb hf=>(st.foot b hb).elim (fun e=>k.apart b e hf) fun hg=>by
  have:b < w.heap.size:=hf.elim (k.sys.disk.lt b) (k.sys.log.lt b)
  omega⟩,rfl⟩,st.right⟩
theorem open_ (k:SideB w G h hd ht D l t) (hgone:D.gone=false) (base n low:Nat) (h8:8≤n) (h64:n≤64) (hb:base+n≤D.safe.length) (hl:1≤low) (hlm:low≤16777216) :
 Calls Tryz.prog 23 #[.pointer (some ⟨hd,0,none⟩),.int .i64 base,.int .i64 n,.int .i64 low] w fun e w'=>∃ h2 G',e=.returned (.tuple #[.pointer (some ⟨h2,0,none⟩),.int .i64 0])∧SideB w' G' h2 hd ht D (Wl.opened D base n low) t∧Step G G' w w':=by
 obtain ⟨GD,GL,GT,k,rfl⟩:=k
 refine (rlOpenLog_any k.sys.disk k.sys.dok hgone base n low h8 h64 hb hl hlm).mono ?_
 rintro e w' ⟨h2,GL',he,hL,hF,hbel⟩
 have st:Step (Both GD GL) (Both GD GL') w w':=Step.byBelow hbel fun b hb=>hb.elim (fun e=>.inl (.inl e)) fun e=>.inr (hF b e)
 exact ⟨h2,_,he,⟨GD,GL',GT,k.log ⟨k.sys.disk.below hbel,k.sys.dok,hL,fun b hb e=>by have:=k.sys.disk.lt b hb; have:=hF b e; omega⟩ st,rfl⟩,st.left⟩
theorem arm (k:SideB w G h hd ht D l t) (j:Int) (hj:j < 9223372036854775808):(∃ u,w.cell? ⟨hd,3,none⟩=some u)∧w.frozen? ⟨hd,3,none⟩=false∧G hd ∧
 SideB (w.setCell ⟨hd,3,none⟩ (.int .i64 (if 0≤j then j else -1))) G h hd ht (D.arm j) l t∧Step G G w (w.setCell ⟨hd,3,none⟩ (.int .i64 (if 0≤j then j else -1))):=by
 obtain ⟨GD,GL,GT,k,rfl⟩:=k
 obtain ⟨vs,vq,r⟩:=id k.sys.disk
 obtain ⟨_,_,_,c3⟩:=r.cells
 have hd':IsRef (w.setCell ⟨hd,3,none⟩ (.int .i64 (if 0≤j then j else -1))) GD hd (D.arm j):=by
  refine ⟨vs,vq,?_⟩
  have:=r.set1 3 (.int .i64 (if 0≤j then j else -1)) (gone:=D.gone) (k:=if 0≤j then some j.toNat else none) (by
   by_cases h0:0≤j
   · simp [refCells,refFuse,h0]; omega
   · simp [refCells,refFuse,h0])
  exact this
 have hs:Step GD GD w (w.setCell ⟨hd,3,none⟩ (.int .i64 (if 0≤j then j else -1))):=(Step.refl GD w).set (p:=⟨hd,3,none⟩) r.fg _
 obtain ⟨k1,k2⟩:=k.sys.onDisk hd' (k.sys.dok.arm j hj) hs
 exact ⟨⟨_,c3⟩,r.frozen 3,.inl (.inl r.fg),⟨GD,GL,GT,k.log k1 k2,rfl⟩,k2.left⟩
theorem whole (k:SideB w G h hd ht D l t) (hlen:t.l.length≤40000000) :
 Calls Tryz.prog 26 #[.pointer (some ⟨ht,0,none⟩),.pointer (some ⟨h,0,none⟩)] w fun e w'=>∃ v,e=.returned (.tuple #[v,.int .i64 (t.err l)])∧IsEnts w' v (t.whole l)∧Below w.heap.size w w':=by
 obtain ⟨GD,GL,GT,k,rfl⟩:=k
 exact rtWhole_any k.tape k.sys.log hlen
theorem page (k:SideB w G h hd ht D l t) (hlen:t.l.length≤40000000) (n:Int) :
 Calls Tryz.prog 28 #[.pointer (some ⟨ht,0,none⟩),.pointer (some ⟨h,0,none⟩),.int .i64 n] w fun e w'=>e=.returned (.tuple #[.agg #[.int .i64 (t.page l n).1,.string (t.page l n).2],.int .i64 (t.err l)])∧Below w.heap.size w w':=by
 obtain ⟨GD,GL,GT,k,rfl⟩:=k
 exact rtPage_any k.tape k.sys.log hlen n
theorem low (k:SideB w G h hd ht D l t):w.cell? ⟨h,3,none⟩=some (.int .i64 l.low):=by
 obtain ⟨GD,GL,GT,k,rfl⟩:=k
 obtain ⟨_,vb,r⟩:=k.sys.log
 exact r.cells.2.2.2.1
theorem upto (k:SideB w G h hd ht D l t):w.cell? ⟨ht,0,none⟩=some (.int .i64 t.upto):=by
 obtain ⟨GD,GL,GT,k,rfl⟩:=k
 obtain ⟨_,v,q,r⟩:=k.tape
 exact r.cells.1
theorem list (k:SideB w G h hd ht D l t):∃ v,w.cell? ⟨ht,1,none⟩=some v∧IsEnts w v t.l:=by
 obtain ⟨GD,GL,GT,k,rfl⟩:=k
 obtain ⟨ok,v,q,r⟩:=k.tape
 refine ⟨v,r.cells.2,?_⟩
 have:=r.own.isEnts
 rw [r.ents] at this
 exact this
end SideB
structure Duo15 (w0 w:World) (F:Foot) (g gd gt:Nat) (D:Dk) (l:Wl) (t:Tp) (G:Foot) (h hd ht:Nat) (E:Dk) (m:Wl) (u:Tp):Prop where
 a:SideA w0 w F g gd gt D l t
 b:SideB w G h hd ht E m u
 ap:∀ x,F x→¬ G x
 ng:∀ x,G x→w0.heap.size≤x
namespace Duo15
variable {w0 w w':World} {F F' G G':Foot} {g g' gd gt gt' h h' hd ht:Nat} {D D' E E':Dk} {l l' m m':Wl} {t t' u u':Tp}
theorem more (k:Duo15 w0 w F g gd gt D l t G h hd ht E m u) (hb:Below w.heap.size w w'):Duo15 w0 w' F g gd gt D l t G h hd ht E m u:=⟨k.a.more hb,k.b.more hb,k.ap,k.ng⟩
theorem stepA (k:Duo15 w0 w F g gd gt D l t G h hd ht E m u) (hp:SideA w0 w' F' g' gd gt' D' l' t') (st:Step F F' w w'):Duo15 w0 w' F' g' gd gt' D' l' t' G h hd ht E m u :=
 ⟨hp,k.b.only (S:=F) ⟨st.os,st.tape,st.output,st.size,st.block⟩ fun x hx e=>k.ap x e hx,fun x hx hg=>(st.foot x hx).elim (fun e=>k.ap x e hg) fun e=>by have:=k.b.lt x hg; omega,k.ng⟩
theorem stepB (k:Duo15 w0 w F g gd gt D l t G h hd ht E m u) (hp:SideB w' G' h' hd ht E' m' u') (st:Step G G' w w'):Duo15 w0 w' F g gd gt D l t G' h' hd ht E' m' u' :=
 ⟨k.a.only (S:=G) ⟨st.os,st.tape,st.output,st.size,st.block⟩ k.ap k.ng,hp,fun x hx hg=>(st.foot x hg).elim (k.ap x hx) fun e=>by have:=k.a.lt x hx; omega,st.from_ k.ng k.a.below.size⟩
end Duo15
end Go.Proofs.YthkbcfhjmnpggaaGreat

namespace Go.Proofs.YthkbcfhjmnpggaaGreat
open Go.RowKit
section
variable {w:World}
set_option maxRecDepth 100000 in
theorem logNew_bad (gd base:Nat) (n:Int) (hn:n < 8∨64 < n) :
 Calls Tryz.prog 6 #[.pointer (some ⟨gd,0,none⟩),.int .i64 base,.int .i64 n] w fun e w'=>e=.returned (.tuple #[.pointer none,.int .i64 1])∧w=w':=by
 by_cases h1:n < 8
 ·have a1:decide (n < 8)=true:=by simp [h1]
  go_enter Tryz.func6,Tryz.ntmps6
  go_wp2
  go_ret2
  exact ⟨rfl,rfl⟩
 ·have h8:64 < n:=by omega
  have a1:decide (n < 8)=false:=by simp [h1]
  have a2:decide (64 < n)=true:=by simp [h8]
  go_enter Tryz.func6,Tryz.ntmps6
  go_wp2
  go_ret2
  exact ⟨rfl,rfl⟩
end
end Go.Proofs.YthkbcfhjmnpggaaGreat

namespace Go.Proofs.YthkbcfhjmnpggaaGreat
open Go.RowKit
theorem row_blk {w:World} {g n e size base:Nat} {xs:List Value} (h:Blk w g e xs.toArray) (hn:xs.length=n*size) (hb:base≤g) (hm:n≤maxLen):w.ownsRow base e size (.slice (some ⟨g,0,none⟩) n n) n xs :=
 ⟨hn,.inr ⟨g,n,xs.toArray,rfl,hb,h,Nat.le_refl _,hm,by simpa using hn,by rw [← hn]; simp⟩⟩
section
variable {w:World}
set_option maxRecDepth 100000 in
set_option maxHeartbeats 8000000 in
theorem rlNew_ok {D:Dk} {FD:Foot} {gd:Nat} (h:IsRef w FD gd D) (ok:D.Ok) (base n:Nat) (n8:8≤n) (n64:n≤64) (hr:base+n≤D.safe.length) :
 Calls Tryz.prog 7 #[.pointer (some ⟨gd,0,none⟩),.int .i64 base,.int .i64 n] w fun e w'=>∃ g,e=.returned (.tuple #[.pointer (some ⟨g,0,none⟩),.int .i64 0])∧IsRL w' (fun b=>b=w.heap.size∨b=g) g gd (Wl.new base n)∧w.heap.size≤g∧Below w.heap.size w w':=by
 have hle:=ok.le
 have MY:=Lib.hid (rlMay_any h ok base n (by omega) true (by rw [decide_eq_true]; exact ⟨n8,n64,hr⟩))
 have X0:=(Blk.new w 9 #[.string ⟨#[]⟩])
 have B0:=(Below.refl w.heap.size w).alloc (Nat.le_refl _) (.cells #[.string ⟨#[]⟩] 9)
 have cE:rlogCells gd (Wl.new base n) (.slice (some ⟨w.heap.size,0,none⟩) 1 1)=#[.pointer (some ⟨gd,0,none⟩),.int .i64 base,.int .i64 n,.int .i64 1,.int .i64 1,.int .i64 1,.slice (some ⟨w.heap.size,0,none⟩) 1 1]:=rfl
 have hB:(Wl.new base n).B = [(⟨#[]⟩:ByteArray)]:=rfl
 have X1:=X0.alloc (.cells (rlogCells gd (Wl.new base n) (.slice (some ⟨w.heap.size,0,none⟩) 1 1)) 69)
 have L1:=Blk.new (w.alloc (.cells #[.string ⟨#[]⟩] 9)) 69 (rlogCells gd (Wl.new base n) (.slice (some ⟨w.heap.size,0,none⟩) 1 1))
 have B1:=B0.alloc B0.size (.cells (rlogCells gd (Wl.new base n) (.slice (some ⟨w.heap.size,0,none⟩) 1 1)) 69)
 have hl:IsRL ((w.alloc (.cells #[.string ⟨#[]⟩] 9)).alloc (.cells (rlogCells gd (Wl.new base n) (.slice (some ⟨w.heap.size,0,none⟩) 1 1)) 69)) (fun b=>b=w.heap.size∨b=(w.alloc (.cells #[.string ⟨#[]⟩] 9)).heap.size) (w.alloc (.cells #[.string ⟨#[]⟩] 9)).heap.size gd (Wl.new base n):=by
  refine ⟨Wl.Ok.new n8 n64 (by omega),.slice (some ⟨w.heap.size,0,none⟩) 1 1,L1,?_,.inr rfl,fun b hb=>.inl (by simpa [Value.ownBlock] using hb.symm),fun b hb=>?_⟩
  ·rw [hB]
   exact row_blk (xs:=[.string ⟨#[]⟩]) X1 rfl (Nat.zero_le _) (by unfold maxLen; omega)
  ·rcases hb with rfl | rfl
   · exact X1.lt
   · exact L1.lt
 have HL:=Lib.hid hl
 have HB1:=Lib.hid B1
 have HGE:Hid (w.heap.size≤(w.alloc (.cells #[.string ⟨#[]⟩] 9)).heap.size):=B0.size
 rw [cE] at HL HB1
 simp only [World.size_alloc] at HL HGE
 clear h ok n8 n64 hr hle X0 B0 cE hB X1 L1 B1 hl
 go_enter Tryz.func7,Tryz.ntmps7
 go_wp2_with fail
 refine MY.out.mono ?_
 rintro e w1 ⟨rfl,rfl⟩
 go_wp2
 go_ret2
 exact ⟨_,rfl,HL.out,HGE.out,HB1.out⟩
set_option maxRecDepth 100000 in
theorem rlMay_size (gd base:Nat) (n:Int) (hn:n < 8∨64 < n) :
 Calls Tryz.prog 36 #[.pointer (some ⟨gd,0,none⟩),.int .i64 base,.int .i64 n] w fun e w'=>e=.returned (.bool false)∧w=w':=by
 by_cases h1:n < 8
 ·have a1:¬ (8:Int)≤n:=by omega
  clear hn
  go_enter Tryz.func36,Tryz.ntmps36
  go_wp2
  go_ret
  exact ⟨rfl,rfl⟩
 ·have a1:(8:Int)≤n:=by omega
  have a2:¬ n≤64:=by omega
  clear hn h1
  go_enter Tryz.func36,Tryz.ntmps36
  go_wp2
  go_ret
  exact ⟨rfl,rfl⟩
set_option maxRecDepth 100000 in
theorem rlNew_bad (gd base:Nat) (n:Int) (hn:n < 8∨64 < n) :
 Calls Tryz.prog 7 #[.pointer (some ⟨gd,0,none⟩),.int .i64 base,.int .i64 n] w fun e w'=>e=.returned (.tuple #[.pointer none,.int .i64 1])∧w=w':=by
 have MY:=Lib.hid (rlMay_size (w:=w) gd base n hn)
 clear hn
 go_enter Tryz.func7,Tryz.ntmps7
 go_wp2_with fail
 refine MY.out.mono ?_
 rintro e w1 ⟨rfl,rfl⟩
 go_wp2
 go_ret2
 exact ⟨rfl,rfl⟩
end
end Go.Proofs.YthkbcfhjmnpggaaGreat

namespace Go.Proofs.YthkbcfhjmnpggaaGreat
open Go.RowKit
namespace Aw15
def R:Rc:=.begin5
theorem layR:lay R = [5]:=by decide
theorem mR:May R:=.beg
def l0:Wl:=Wl.new 0 8
def l1:Wl:={ l0 with secs:=[[R]] }
def l2:Wl:={ l0 with secs:=[[R,R]] }
def l3:Wl:={ l2 with first:=2 }
def l4:Wl:={ l3 with low:=2,secs:=[] }
def l5:Wl:={ l4 with secs:=[[R]] }
def D0:Dk:=Dk.new 8
def t1:Tp:=⟨2,[(128,R),(129,R)]⟩
theorem body1:(body [R]).length=1:=by simp [body,layR]
theorem a1:l0.app R=(128,0,l1):=by
 rw [Wl.app_may mR]
 have hj:¬ l0.joins R:=by unfold Wl.joins; intro h; exact absurd h.1 (by decide)
 simp only [Wl.putAt,Wl.putE,Wl.put,if_neg hj]
 rfl
theorem a2:l1.app R=(129,0,l2):=by
 rw [Wl.app_may mR]
 have hj:l1.joins R:=by
  unfold Wl.joins
  refine ⟨by decide,?_⟩
  show (body [R]).length+(lay R).length≤112
  rw [body1,layR]; decide
 simp only [Wl.putAt,Wl.putE,Wl.put,if_pos hj]
 show ((l1.end_ - 1)*128+(body [R]).length,0,_)=_
 rw [body1]
 rfl
theorem a4:l4.app R=(256,0,l5):=by
 rw [Wl.app_may mR]
 have hj:¬ l4.joins R:=by unfold Wl.joins; intro h; exact absurd h.1 (by decide)
 simp only [Wl.putAt,Wl.putE,Wl.put,if_neg hj]
 rfl
theorem ok0:l0.Ok:=Wl.Ok.new (by decide) (by decide) (by decide)
theorem short:(lay R).length≤112:=by rw [layR]; decide
theorem put1:l1=l0.put R:=by have:=a1; rw [Wl.app_may mR] at this; exact (Prod.mk.inj (Prod.mk.inj this).2).2.symm
theorem put2:l2=l1.put R:=by have:=a2; rw [Wl.app_may mR] at this; exact (Prod.mk.inj (Prod.mk.inj this).2).2.symm
theorem ok1:l1.Ok:=by rw [put1]; exact ok0.put mR short
theorem ok2:l2.Ok:=by rw [put2]; exact ok1.put mR short
theorem s0:Stands D0 l0:=Stands.new (by decide)
theorem s2:Stands D0 l2:=by rw [put2,put1]; exact (s0.put ok0 R).put (by rw [← put1]; exact ok1) R
theorem hE2:l2.epoch < 4294967296:=by show (1:Nat) < 4294967296; omega
theorem f0:(l2.flush D0).2.2=0:=s2.flush_ok ok2 (by unfold D0 Dk.new; rfl)
theorem f1:(l2.flush D0).2.1=l3:=(s2.flushed ok2 hE2 f0).1
theorem all3:l3.all = [(128,R),(129,R)]:=by
 show Wl.allFrom 1 [[R,R]]=_
 simp [Wl.allFrom,entsOf,layR]
theorem all5:l5.all = [(256,R)]:=by
 show Wl.allFrom 2 [[R]]=_
 simp [Wl.allFrom,entsOf]
theorem beh3:Tp.new.behind l3 = [(128,R),(129,R)]:=by
 unfold Tp.behind Wl.scan
 rw [all3]
 rfl
theorem fresh3:Tp.new.fresh l3 = [(128,R),(129,R)]:=by
 unfold Tp.fresh
 rw [beh3]
 rfl
theorem err3:Tp.new.err l3=0:=rfl
theorem addN3:Tp.new.addN l3=2:=by
 show (if Tp.new.upto < l3.low then 0 else (Tp.new.fresh l3).length)=2
 rw [fresh3]
 rfl
theorem add3:Tp.new.add l3=t1:=by
 show (if Tp.new.upto < l3.low then Tp.new else ⟨max Tp.new.upto l3.first,Tp.new.l++Tp.new.fresh l3⟩)=t1
 rw [fresh3]
 rfl
theorem cutE3:l3.cutE 2=0:=by decide
theorem cutI3:l3.cutI 2=l4:=by
 unfold Wl.cutI
 rw [if_neg (by decide)]
 rfl
theorem beh5:t1.behind l5 = [(256,R)]:=by
 unfold Tp.behind Wl.scan
 rw [all5]
 rfl
theorem whole5:t1.whole l5 = [(128,R),(129,R),(256,R)]:=by
 show (if t1.upto < l5.low then [] else t1.l++t1.behind l5)=_
 rw [beh5]
 rfl
theorem err5:t1.err l5=0:=rfl
theorem whole0:Tp.new.whole l5 = []:=rfl
theorem err0:Tp.new.err l5=11:=rfl
end Aw15
set_option maxRecDepth 100000 in
set_option maxHeartbeats 16000000 in
theorem awake15_any (w:World):Calls Tryz.prog 8 #[] w fun e w'=>e=.returned (.bool true)∧Below w.heap.size w w':=by
 have IR:Hid (∀ W,IsRec W (.agg #[.int .i64 5,.int .i64 0,.int .i64 0,.int .i64 0,.int .i64 0,.int .i64 0,.int .i64 0,.string ⟨#[]⟩,.string ⟨#[]⟩,.slice none 0 0,.slice none 0 0]) .begin5):=fun W=>⟨_,_,rfl,Lists.nil _ .begin5 rfl rfl⟩
 go_enter Tryz.func8,Tryz.ntmps8
 go_wp2_with fail
 refine (new_ok 8 w (by omega) (by omega)).mono ?_
 rintro e w1 ⟨gd,FD,rfl,hd,hFD,hb1⟩
 have HD:=Lib.hid hd
 have HFD:=Lib.hid hFD
 have HB1:=Lib.hid hb1
 clear hd hFD hb1
 go_wp2_with fail
 refine (LiveL.make HD.out HFD.out HB1.out 0 8 (by omega) (by omega) (by simp [Dk.new])).mono ?_
 rintro e w2 ⟨g,FL,rfl,hl⟩
 have L2:=Lib.hid hl
 clear hl HD HB1 HFD
 go_wp2_with fail
 refine (L2.out.appendAs (IR.out _) (May.fit .beg) Aw15.a1 128 0 rfl rfl).mono ?_
 rintro e w4 ⟨rfl,FL4,hl4,-⟩
 have L4:=Lib.hid hl4
 clear L2 hl4
 go_wp2_with fail
 refine (L4.out.appendAs (IR.out _) (May.fit .beg) Aw15.a2 129 0 rfl rfl).mono ?_
 rintro e w6 ⟨rfl,FL6,hl6,-⟩
 have L6:=Lib.hid hl6
 clear L4 hl6
 go_wp2_with fail
 refine (L6.out.flushAs Aw15.hE2 (Nat.zero_le _) rfl Aw15.f1 0 (by rw [show Dk.new 8=Aw15.D0 from rfl,Aw15.f0]; rfl)).mono ?_
 rintro e w7 ⟨rfl,FD7,hl7,-⟩
 have L7:=Lib.hid hl7
 clear L6 hl7
 go_wp2_with fail
 refine (tapeNew_any _).mono ?_
 rintro e w8 ⟨rfl,hT,hb8⟩
 have LT:Hid (LiveT w w8 FD7 FL6 (· = w7.heap.size) g gd w7.heap.size ((Aw15.l2.flush (Dk.new 8)).1) Aw15.l3 Tp.new) :=
  ⟨L7.out.more hb8,hT,fun b hb=>by subst hb; exact L7.out.below.size,fun b hb hf=>by subst hb; rcases hf with hf | hf; (have:=L7.out.sys.disk.lt _ hf; omega); (have:=L7.out.sys.log.lt _ hf; omega)⟩
 clear hT hb8 L7
 generalize w7.heap.size=gt at *
 generalize (Aw15.l2.flush (Dk.new 8)).1=D7 at *
 go_wp2_with fail
 refine (LT.out.add (by simp [Tp.new])).mono ?_
 rw [Aw15.addN3,Aw15.err3,Aw15.add3]
 rintro e w9 ⟨rfl,FT9,h9,-⟩
 have L9:=Lib.hid h9
 clear h9 LT
 go_wp2_with fail
 refine (L9.out.cut 2 (by decide)).mono ?_
 rw [Aw15.cutE3,Aw15.cutI3]
 rintro e w10 ⟨rfl,h10,-⟩
 have L10:=Lib.hid h10
 clear h10 L9
 go_wp2_with fail
 refine (L10.out.live.appendAs (IR.out _) (May.fit .beg) Aw15.a4 256 0 rfl rfl).mono ?_
 rintro e w11 ⟨rfl,FL11,h11,st11⟩
 have L11:=Lib.hid (L10.out.log h11 st11)
 clear h11 st11 L10
 go_wp2_with fail
 refine (tapeWhole_any L11.out.tape L11.out.live.sys.log (by decide)).mono ?_
 rw [Aw15.whole5,Aw15.err5]
 rintro e w12 ⟨v12,q12,rfl,hq12,ho12,hb12,-⟩
 obtain ⟨ra,rc,hv12⟩:=own_slice ho12.own
 have hlen:q12.length=3:=by
  have h:=congrArg List.length hq12
  rw [List.length_map] at h
  exact h
 rw [hlen] at hv12
 subst hv12
 have L12:=Lib.hid (L11.out.more hb12)
 clear ho12 hq12 hb12 hlen L11
 go_wp2_with fail
 refine (tapeNew_any _).mono ?_
 rintro e w13 ⟨rfl,hT,hb13⟩
 have L13:=Lib.hid (L12.out.more hb13)
 have HT:=Lib.hid hT
 clear hT hb13 L12
 generalize w12.heap.size=gt2 at *
 go_wp2_with fail
 refine (tapeWhole_any HT.out L13.out.live.sys.log (by simp [Tp.new])).mono ?_
 rw [Aw15.whole0,Aw15.err0]
 rintro e w14 ⟨v14,q14,rfl,hq14,ho14,hb14,-⟩
 obtain ⟨ra2,rc2,hv14⟩:=own_slice ho14.own
 have L14:=Lib.hid (L13.out.more hb14)
 clear ho14 hb14 hq14 L13 HT
 subst hv14
 have UP:=Lib.hid (upto_any L14.out.tape)
 have LS:=Lib.hid (tapeList_any L14.out.tape)
 go_wp2_with fail
 refine UP.out.mono ?_
 rintro e w15 ⟨rfl,rfl⟩
 rw [show Aw15.t1.upto=2 from rfl]
 go_wp2_with fail
 refine LS.out.mono ?_
 rw [show Aw15.t1.l = [(128,Aw15.R),(129,Aw15.R)] from rfl]
 rintro e w16 ⟨v16,q16,rfl,hq16,ho16,hb16,-⟩
 obtain ⟨ra3,rc3,hv16⟩:=own_slice ho16.own
 have hlen:q16.length=2:=by
  have h:=congrArg List.length hq16
  rw [List.length_map] at h
  exact h
 rw [hlen] at hv16
 subst hv16
 have HL:=Lib.hid (L14.out.live.more hb16).below
 clear ho16 hq16 hb16 hlen L14 UP LS
 go_wp2
 go_ret
 exact ⟨rfl,HL.out⟩
end Go.Proofs.YthkbcfhjmnpggaaGreat

namespace Go.Proofs.YthkbcfhjmnpggaaGreat
open Go.ChangeShapes Go.WideShapes Go.RowKit
theorem reads_bytes {H:Type} {enc:TypeId × Value→H} {P:Program} {W:World} {t e:TypeId} {n:Nat} {cs:List Value} {y:DataW H × List MemPlace} (ht:P.underlying t=some (.slice e)) (he:P.underlying e=some (.int .u8)) (hc:P.cellsOf e=1)
 (h:DataW.trod enc P W 0 (fun _=>true) true n t cs=some y):∃ (v:Value) (p:List UInt8),cs = [v]∧Reads W v (p.map fun b:UInt8=>Value.int .u8 (b.toNat:Int))∧p.length≤maxLen:=by
 rcases Deep.open_slice1 ht hc h with ⟨rfl,_⟩ | ⟨a,len,cap,m,k,V,D,Pl,rfl,_,hl,hm,hmm,_,hx⟩
 · exact ⟨_,[],rfl,Reads.empty W _ _,Nat.zero_le _⟩
 ·simp only [if_true] at hmm
  subst hmm
  have each:∀ j,j < m→∃ b:UInt8,V j=.int .u8 (b.toNat:Int):=fun j hj=>by
   obtain ⟨x,hcs,_,hw⟩:=DataW.trod_int he (hx j hj).2
   simp only [List.cons.injEq,and_true] at hcs
   have hr:0≤x∧x≤255:=by simpa [Lit.wf,IntKind.min,IntKind.max,IntKind.signed,IntKind.bits] using hw
   exact ⟨UInt8.ofNat x.toNat,by rw [hcs]; congr 1; simp; omega⟩
  have hlen:((List.range len).map fun j=>(match V j with | .int _ x=>UInt8.ofNat x.toNat | _=>0)).length=len:=by simp
  refine ⟨_,(List.range len).map fun j=>(match V j with | .int _ x=>UInt8.ofNat x.toNat | _=>0),rfl,⟨some a,m,by simp,by simpa using hl,fun j v hj=>?_⟩,by rw [hlen]; omega⟩
  rw [List.getElem?_map,List.getElem?_map] at hj
  by_cases g:j < len
  ·rw [List.getElem?_range g] at hj
   simp only [Option.map_some,Option.some.injEq] at hj
   obtain ⟨b,hb⟩:=each j (by omega)
   obtain ⟨blk,off,spot⟩:=a
   have h0:=(hx 0 (by omega)).1
   have hspot:spot=none:=by simpa [Addr.add] using World.cell?_spot h0
   subst hspot
   refine ⟨blk,off,rfl,?_⟩
   rw [← add_plain,(hx j (by omega)).1,← hj,hb]
   simp
  ·rw [List.getElem?_eq_none (by simpa using g)] at hj
   cases hj
end Go.Proofs.YthkbcfhjmnpggaaGreat

namespace Go.Proofs.YthkbcfhjmnpggaaGreat
open Go.ChangeShapes Go.WideShapes Go.RowKit
set_option maxRecDepth 100000
structure OpT where
 kind:Int
 n:Int
 r:Rc
 picks:List UInt8
def opTCells (o:OpT) (vt vp pv:Value):Array Value:=#[.int .i64 o.kind,.int .i64 o.n,.int .i64 o.r.kind,.int .i64 o.r.txn,.int .i64 o.r.page,.int .i64 o.r.off,.int .i64 o.r.prev,.int .i64 o.r.next,.int .i64 o.r.beg,.string o.r.before,.string o.r.after,vt,vp,pv]
theorem opT_toList (o:OpT) (vt vp pv:Value):(opTCells o vt vp pv).toList=.int .i64 o.kind::.int .i64 o.n::((recCells o.r vt vp).toList++[pv]):=rfl
def OpTQ (w:World) (cs:List Value) (o:OpT):Prop:=∃ vt vp pv,cs=(opTCells o vt vp pv).toList∧Lists w o.r vt vp∧Sized o.r∧Reads w pv (byteVs o.picks)∧(Lit.int .i64 o.n).wf=true∧o.picks.length≤maxLen
abbrev IsOpsT (w:World) (v:Value) (l:List OpT):Prop:=ListOf 14 OpTQ w v l
theorem OpTQ.keep {w w':World} {cs:List Value} {o:OpT} (h:OpTQ w cs o) (hb:Below w.heap.size w w'):OpTQ w' cs o:=by
 obtain ⟨vt,vp,pv,e,hl,hs,hr,hn,hm⟩:=h
 exact ⟨vt,vp,pv,e,hl.keep hb,hs,hr.keep hb,hn,hm⟩
theorem IsOpsT.keep {w w':World} {v:Value} {l:List OpT} (h:IsOpsT w v l) (hb:Below w.heap.size w w'):IsOpsT w' v l:=ListOf.keep h (fun _ _ hq=>hq.keep hb) hb
theorem cellsOpT:Tryz.prog.cellsOf 49=14:=by kernel_rfl
theorem cellsIntT:Tryz.prog.cellsOf 3=1:=by kernel_rfl
theorem cellsByteT:Tryz.prog.cellsOf 5=1:=by kernel_rfl
theorem cellsPicksT:Tryz.prog.cellsOf 47=1:=by kernel_rfl
theorem read_opT {H:Type} {enc:TypeId × Value→H} {W:World} {n:Nat} {cs:List Value} {y:DataW H × List MemPlace} (hcl:cs.length=14) (h:DataW.trod enc Tryz.prog W 0 (fun _=>true) true n 49 cs=some y):∃ o:OpT,OpTQ W cs o:=by
 obtain ⟨xs,k,_,_,_,hxl,hg⟩:=DataW.trod_struct Tryz.underlying49 h
 match cs,hcl with
 | [x0,x1,x2,x3,x4,x5,x6,x7,x8,x9,x10,x11,x12,x13],_ =>
  match xs,hxl with
  | [y0,y1,y2,y3],_ =>
   have g0:DataW.trod enc Tryz.prog W 0 (fun _=>true) true k 3 (([x0,x1,x2,x3,x4,x5,x6,x7,x8,x9,x10,x11,x12,x13].drop 0).take (Tryz.prog.cellsOf 3)) = [y0,y1,y2,y3][0]?:=hg 0 _ rfl
   have g1:DataW.trod enc Tryz.prog W 0 (fun _=>true) true k 3 (([x0,x1,x2,x3,x4,x5,x6,x7,x8,x9,x10,x11,x12,x13].drop 1).take (Tryz.prog.cellsOf 3)) = [y0,y1,y2,y3][1]?:=hg 1 _ rfl
   have g2:DataW.trod enc Tryz.prog W 0 (fun _=>true) true k 46 (([x0,x1,x2,x3,x4,x5,x6,x7,x8,x9,x10,x11,x12,x13].drop 2).take (Tryz.prog.cellsOf 46)) = [y0,y1,y2,y3][2]?:=hg 2 _ rfl
   have g3:DataW.trod enc Tryz.prog W 0 (fun _=>true) true k 47 (([x0,x1,x2,x3,x4,x5,x6,x7,x8,x9,x10,x11,x12,x13].drop 13).take (Tryz.prog.cellsOf 47)) = [y0,y1,y2,y3][3]?:=hg 3 _ rfl
   simp only [cellsIntT,cellsRec,cellsPicksT,List.drop_zero,List.drop_succ_cons,List.take_succ_cons,List.take_zero,List.getElem?_cons_zero,List.getElem?_cons_succ] at g0 g1 g2 g3
   obtain ⟨z0,e0,_,w0⟩:=DataW.trod_int Tryz.underlying3 g0
   obtain ⟨z1,e1,_,w1⟩:=DataW.trod_int Tryz.underlying3 g1
   obtain ⟨r,vt,vp,e2,hl,hs⟩:=read_rec rfl g2
   obtain ⟨v4,l4,e3,r4,h4⟩:=reads_bytes Tryz.underlying47 Tryz.underlying5 cellsByteT g3
   simp only [List.cons.injEq,and_true] at e0 e1 e3
   subst e0 e1 e3
   refine ⟨⟨z0,z1,r,l4⟩,vt,vp,x13,?_,hl,hs,r4,w1,h4⟩
   rw [opT_toList,← e2]
   rfl
theorem open_opsT {H:Type} {enc:TypeId × Value→H} {W:World} {b0:Nat} {r:Reach} {v:Value} {d:DataW H} {p:List MemPlace} (hval:Value.okWide Tryz.prog W r b0 22 v) (h:DataW.Trod enc Tryz.prog W 0 (fun _=>true) true 22 v d p) :
 ∃ l,IsOpsT W v l :=
 haveI:Inhabited OpT:=⟨⟨0,0,Rc.nil,[]⟩⟩
 open_list Tryz.underlying22 14 (by decide) cellsOpT hval h OpTQ fun _ _ _ hcl ht=>read_opT hcl ht
structure OpTAt (w:World) (b o:Nat) (x:OpT) (vt vp pv:Value):Prop where
 c0:w.cell? ⟨b,o,none⟩=some (.int .i64 x.kind)
 c1:w.cell? ⟨b,o+1,none⟩=some (.int .i64 x.n)
 c2:w.cell? ⟨b,o+2,none⟩=some (.int .i64 x.r.kind)
 c3:w.cell? ⟨b,o+3,none⟩=some (.int .i64 x.r.txn)
 c4:w.cell? ⟨b,o+4,none⟩=some (.int .i64 x.r.page)
 c5:w.cell? ⟨b,o+5,none⟩=some (.int .i64 x.r.off)
 c6:w.cell? ⟨b,o+6,none⟩=some (.int .i64 x.r.prev)
 c7:w.cell? ⟨b,o+7,none⟩=some (.int .i64 x.r.next)
 c8:w.cell? ⟨b,o+8,none⟩=some (.int .i64 x.r.beg)
 c9:w.cell? ⟨b,o+9,none⟩=some (.string x.r.before)
 c10:w.cell? ⟨b,o+10,none⟩=some (.string x.r.after)
 c11:w.cell? ⟨b,o+11,none⟩=some vt
 c12:w.cell? ⟨b,o+12,none⟩=some vp
 c13:w.cell? ⟨b,o+13,none⟩=some pv
theorem OpTAt.mk' {w:World} {b o:Nat} {x:OpT} {vt vp pv:Value} (h:∀ i u,(opTCells x vt vp pv)[i]? = some u→w.cell? ⟨b,o+i,none⟩=some u):OpTAt w b o x vt vp pv :=
 ⟨h 0 _ rfl,h 1 _ rfl,h 2 _ rfl,h 3 _ rfl,h 4 _ rfl,h 5 _ rfl,h 6 _ rfl,h 7 _ rfl,h 8 _ rfl,h 9 _ rfl,h 10 _ rfl,h 11 _ rfl,h 12 _ rfl,h 13 _ rfl⟩
theorem OpTAt.keep {w w':World} {b o:Nat} {x:OpT} {vt vp pv:Value} (h:OpTAt w b o x vt vp pv) (hb:Below w.heap.size w w'):OpTAt w' b o x vt vp pv:=by
 have hlt:=World.block_lt_of_cell? w ⟨b,o,none⟩ h.c0
 have k:∀ x,w'.cell? ⟨b,x,none⟩=w.cell? ⟨b,x,none⟩:=fun x=>hb.cell (p:=⟨b,x,none⟩) hlt
 exact ⟨(k _).trans h.c0,(k _).trans h.c1,(k _).trans h.c2,(k _).trans h.c3,(k _).trans h.c4,(k _).trans h.c5,(k _).trans h.c6,(k _).trans h.c7,(k _).trans h.c8,(k _).trans h.c9,(k _).trans h.c10,(k _).trans h.c11,(k _).trans h.c12,(k _).trans h.c13⟩
theorem IsOpsT.at_ {w:World} {v:Value} {l:List OpT} (h:IsOpsT w v l) (hl:0 < l.length):∃ b off cap,v=.slice (some ⟨b,off,none⟩) l.length cap∧l.length≤cap∧cap≤maxLen∧b < w.heap.size ∧
 ∀ j (hj:j < l.length),∃ ta tc pa pc ka kc,Lists w l[j].r (.slice ta l[j].r.txns.length tc) (.slice pa l[j].r.pages.length pc)∧Sized l[j].r∧Reads w (.slice ka l[j].picks.length kc) (byteVs l[j].picks)∧(Lit.int .i64 l[j].n).wf=true∧l[j].picks.length≤maxLen ∧
  OpTAt w b (off+j*14) l[j] (.slice ta l[j].r.txns.length tc) (.slice pa l[j].r.pages.length pc) (.slice ka l[j].picks.length kc):=by
 rcases h.cases with ⟨rfl,_⟩ | ⟨b,off,cap,rfl,_,h2,h3,h4,h5⟩
 · simp at hl
 refine ⟨b,off,cap,rfl,h2,h3,h4,fun j hj=>?_⟩
 obtain ⟨cs,⟨vt,vp,pv,rfl,hl,hs,hr,hn,hm⟩,hc⟩:=h5 j hj
 obtain ⟨ta,tc,e⟩:=hl.t.form
 obtain ⟨pa,pc,e'⟩:=hl.p.form
 have hr2:=hr
 obtain ⟨ka,kc,e'',_⟩:=hr2
 rw [show (byteVs l[j].picks).length=l[j].picks.length by simp [byteVs]] at e''
 subst e e' e''
 exact ⟨ta,tc,pa,pc,ka,kc,hl,hs,hr,hn,hm,.mk' fun i u hu=>hc i u (by rw [Array.getElem?_toList]; exact hu)⟩
def isLongT (ops:List OpT):Prop:=(∃ o ∈ ops,¬ Fit o.r∨200 < o.picks.length)∨200 < ops.length
def opTZero:Array Value:=#[.int .i64 0,.int .i64 0,.int .i64 0,.int .i64 0,.int .i64 0,.int .i64 0,.int .i64 0,.int .i64 0,.int .i64 0,.string ⟨#[]⟩,.string ⟨#[]⟩,.slice none 0 0,.slice none 0 0,.slice none 0 0]
set_option maxHeartbeats 16000000 in
theorem longT_any (v:Value) (ops:List OpT) (w:World) (hr:IsOpsT w v ops) (yes:Bool) (hy:yes=true↔isLongT ops) :
 Calls Tryz.prog 9 #[v] w fun e w'=>e=.returned (.bool yes)∧Below w.heap.size w w':=by
 have HV:=Lib.hid hr
 obtain ⟨a,cap,rfl,h1,h2,_⟩:=hr
 have hm:(ops.length:Int)≤9223372036854775807:=by unfold maxLen at h2; omega
 have HY:=Lib.hid hy
 clear h1 h2 hy
 go_enter Tryz.func9,Tryz.ntmps9
 go_wp2_with fail
 go_loopw [7] (fun vk wr=>∃ k:Nat,vk=.int .i64 k∧k≤ops.length∧Below w.heap.size w wr∧∀ o ∈ ops.take k,Fit o.r∧¬ 200 < o.picks.length) (fun vk _=>ops.length - (intOf vk).toNat)
 case atStart=>exact ⟨0,rfl,Nat.zero_le _,Below.refl _ _,fun o ho=>by simp at ho⟩
 case round =>
  obtain ⟨k,rfl,hk,hB,hall⟩:=hrel
  have HB:=Lib.hid hB
  have HALL:=Lib.hid hall
  clear hB hall
  by_cases hlt:k < ops.length
  ·obtain ⟨b,off,cap',hva,_,_,hbw,hel⟩:=HV.out.at_ (by omega)
   cases hva
   obtain ⟨ta,tc,pa,pc,ka,kc,hls0,hsz,hrd,hnw,hpm,hc⟩:=hel k hlt
   have HLS:=Lib.hid (hls0.keep HB.out)
   have HSZ:=Lib.hid hsz
   have HIN:Hid (ops[k] ∈ ops):=List.getElem_mem hlt
   have HTK:Hid (ops.take (k+1)=ops.take k++[ops[k]]):=by unfold Hid; rw [List.take_succ_eq_append_getElem hlt]
   have hp:(ops[k].picks.length:Int)≤9223372036854775807:=by unfold maxLen at hpm; omega
   obtain ⟨c0,c1,c2,c3,c4,c5,c6,c7,c8,c9,c10,c11,c12,c13⟩:=hc.keep HB.out
   clear hls0 hsz hel hc hrd hnw hpm
   generalize ops[k]=o at *
   have hn:=Blk.new wr 49 opTZero
   have N3:=hn.setRow (opTCells o (.slice ta o.r.txns.length tc) (.slice pa o.r.pages.length pc) (.slice ka o.picks.length kc))
   have hb3:Below wr.heap.size wr ((wr.alloc (.cells opTZero 49)).setRow wr.heap.size (opTCells o (.slice ta o.r.txns.length tc) (.slice pa o.r.pages.length pc) (.slice ka o.picks.length kc))):=below_setRow ((Below.refl _ _).alloc (Nat.le_refl _) _) (Nat.le_refl _) _
   have HB3:=Lib.hid (below2 HB.out hb3)
   have HLS3:=Lib.hid (HLS.out.keep hb3)
   go_upto_region 4 with (refine wpList_store_row rfl 49 _ _ rfl wr.heap.size _ rfl rfl 49 _ hn (by kernel_rfl) rfl (by simp [Value.oneCell']) ?_)
   clear hn hb3 c0 c1 c2 c3 c4 c5 c6 c7 c8 c9 c10 c11 c12 c13 HLS HB hbw
   change Code.wp _ _ _ _ ((wr.alloc (.cells opTZero 49)).setRow wr.heap.size (opTCells o (.slice ta o.r.txns.length tc) (.slice pa o.r.pages.length pc) (.slice ka o.picks.length kc)))
   generalize (wr.alloc (.cells opTZero 49)).setRow wr.heap.size (opTCells o (.slice ta o.r.txns.length tc) (.slice pa o.r.pages.length pc) (.slice ka o.picks.length kc))=w3 at *
   generalize wr.heap.size=x at *
   have IR:Hid (IsRec w3 (.agg (recCells o.r (.slice ta o.r.txns.length tc) (.slice pa o.r.pages.length pc))) o.r):=⟨_,_,rfl,HLS3.out⟩
   have d2:w3.cell? ⟨x,2,none⟩=some (.int .i64 o.r.kind):=N3.cell 2
   have d3:w3.cell? ⟨x,3,none⟩=some (.int .i64 o.r.txn):=N3.cell 3
   have d4:w3.cell? ⟨x,4,none⟩=some (.int .i64 o.r.page):=N3.cell 4
   have d5:w3.cell? ⟨x,5,none⟩=some (.int .i64 o.r.off):=N3.cell 5
   have d6:w3.cell? ⟨x,6,none⟩=some (.int .i64 o.r.prev):=N3.cell 6
   have d7:w3.cell? ⟨x,7,none⟩=some (.int .i64 o.r.next):=N3.cell 7
   have d8:w3.cell? ⟨x,8,none⟩=some (.int .i64 o.r.beg):=N3.cell 8
   have d9:w3.cell? ⟨x,9,none⟩=some (.string o.r.before):=N3.cell 9
   have d10:w3.cell? ⟨x,10,none⟩=some (.string o.r.after):=N3.cell 10
   have d11:w3.cell? ⟨x,11,none⟩=some (.slice ta o.r.txns.length tc):=N3.cell 11
   have d12:w3.cell? ⟨x,12,none⟩=some (.slice pa o.r.pages.length pc):=N3.cell 12
   by_cases hf:Fit o.r
   ·have FEW:=Lib.hid (few_yes IR.out hf)
    have HF:=Lib.hid hf
    clear hf
    go_wp2_with fail
    refine FEW.out.mono ?_
    rintro e w4 ⟨rfl,hb4⟩
    have d13:w4.cell? ⟨x,13,none⟩=some (.slice ka o.picks.length kc):=(N3.keep hb4 N3.lt).cell 13
    have HB4:=Lib.hid (below2 HB3.out hb4)
    clear hb4 HB3 N3 HLS3 IR FEW d2 d3 d4 d5 d6 d7 d8 d9 d10 d11 d12
    by_cases hp2:200 < o.picks.length
    ·have hp3:(200:Int) < o.picks.length:=by omega
     have hyes:yes=true:=HY.out.2 (.inl ⟨o,HIN.out,.inr hp2⟩)
     go_wp2
     go_ret
     exact ⟨by rw [hyes]; rfl,HB4.out⟩
    ·have hp3:¬ (200:Int) < o.picks.length:=by omega
     have HALL2:Hid (∀ q ∈ ops.take (k+1),Fit q.r∧¬ 200 < q.picks.length):=fun q hq=>by
      rw [HTK.out] at hq
      rcases List.mem_append.1 hq with hq | hq
      · exact HALL.out q hq
      · simp at hq; subst hq; exact ⟨HF.out,hp2⟩
     clear HALL hp2
     go_wp2
     go_roundw
     case rel=>exact ⟨k+1,by go_num,by omega,HB4.out,HALL2.out⟩
     case measure=>simp [intOf]; omega
   ·have FEW:=Lib.hid (few_no IR.out HSZ.out hf)
    have hyes:yes=true:=HY.out.2 (.inl ⟨o,HIN.out,.inl hf⟩)
    clear hf
    go_wp2_with fail
    refine FEW.out.mono ?_
    rintro e w4 ⟨rfl,hb4⟩
    have HB4:=Lib.hid (below2 HB3.out hb4)
    clear hb4 HB3 N3 HLS3 IR FEW d2 d3 d4 d5 d6 d7 d8 d9 d10 d11 d12
    go_wp2
    go_ret
    exact ⟨by rw [hyes]; rfl,HB4.out⟩
  ·obtain rfl:k=ops.length:=by omega
   have hyes:yes=decide ((200:Int) < ops.length):=by
    have hall:=HALL.out
    rw [List.take_length] at hall
    have h2:isLongT ops↔(200:Int) < ops.length:=by
     unfold isLongT
     constructor
     ·rintro (⟨o,ho,h⟩ | h)
      ·have:=hall o ho
       rcases h with h | h
       · exact absurd this.1 h
       · exact absurd h this.2
      · omega
     · intro h; exact .inr (by omega)
    by_cases h:(200:Int) < ops.length
    · rw [decide_eq_true h]; exact HY.out.2 (h2.2 h)
    ·rw [decide_eq_false h]
     cases hyy:yes with
     | true=>exact absurd (h2.1 (HY.out.1 hyy)) h
     | false=>rfl
   go_wp2
   go_ret
   exact ⟨by rw [hyes]; rfl,HB.out⟩
end Go.Proofs.YthkbcfhjmnpggaaGreat

namespace Go.Proofs.YthkbcfhjmnpggaaGreat
open Go.RowKit
def modN (i m:Int):Nat:=(IntKind.u64.wrap i % m).toNat
theorem modN_pos (i:Int):0≤IntKind.u64.wrap i:=by rw [IntKind.wrap_u64]; omega
theorem modN_lt (i m:Int) (hm:0 < m):(modN i m:Int) < m:=by
 have h1:=Int.emod_lt_of_pos (IntKind.u64.wrap i) hm
 have h2:=Int.emod_nonneg (IntKind.u64.wrap i) (Int.ne_of_gt hm)
 unfold modN; omega
theorem modN_eq (i m:Int) (hm:0 < m) (hm2:m≤1000000000):wrap64 ((IntKind.u64.wrap i).tmod m)=(modN i m:Int):=by
 have h1:=Int.emod_lt_of_pos (IntKind.u64.wrap i) hm
 have h2:=Int.emod_nonneg (IntKind.u64.wrap i) (Int.ne_of_gt hm)
 rw [Int.tmod_eq_emod_of_nonneg (modN_pos i)]
 unfold modN
 generalize IntKind.u64.wrap i % m=x at *
 unfold wrap64
 omega
end Go.Proofs.YthkbcfhjmnpggaaGreat
