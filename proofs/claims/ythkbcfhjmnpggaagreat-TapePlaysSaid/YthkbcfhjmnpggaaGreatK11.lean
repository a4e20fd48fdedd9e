/- Texts that belong together, joined: DiskG, RegionS, WalA. -/
import Derived.Test.YthkbcfhjmnpggaaGreatK10
import Derived.Test.YthkbcfhjmnpggaaGreatK09
import Derived.Test.YthkbcfhjmnpggaaGreatK02
import Derived.Test.YthkbcfhjmnpggaaGreatK00
namespace Go.Proofs.YthkbcfhjmnpggaaGreat
open Go.RowKit
def byteVs (l:List UInt8):List Value:=l.map fun b=>.int .u8 b.toNat
theorem byteVs_len (l:List UInt8):(byteVs l).length=l.length:=by simp [byteVs]
theorem Reads.step {w w':World} {v:Value} {vs:List Value} {F F':Foot} (h:Reads w v vs) (hs:Step F F' w w') (hn:vs≠[]→∀ b,v.ownBlock=some b→¬ F b):Reads w' v vs:=by
 obtain ⟨a,cap,rfl,hc,hx⟩:=h
 refine ⟨a,cap,rfl,hc,fun j x hj=>?_⟩
 obtain ⟨b,off,rfl,h⟩:=hx j x hj
 have hlt:=World.block_lt_of_cell? w ⟨b,off+j,none⟩ h
 exact ⟨b,off,rfl,(World.cell?_of_block (a:=⟨b,off+j,none⟩) (hs.block b hlt (hn (fun e=>by rw [e] at hj; simp at hj) b rfl))).trans h⟩
section
variable {w:World} {F:Foot} {g:Nat} {d:Dk}
set_option maxRecDepth 100000 in
set_option maxHeartbeats 1000000 in
theorem fate_core (b off L cap j y x n:Nat) (w:World) (hc:w.cell? ⟨b,off+y,none⟩=some (.int .u8 x)) (h0:((L:Int) == 0)=false) (htm:Int.tmod (j:Int) (L:Int)=(y:Int)) (_hj0:(0:Int)≤j) (hy0:(0:Int)≤y) (hy:(y:Int) < L)
 (hx:Int.tmod (x:Int) 3=(n:Int)) (_hx2:(x:Int) % 3=(n:Int)) (hem:(j:Int) % (L:Int)=(y:Int)) (_hx0:(0:Int)≤x) :
 Calls Tryz.prog 53 #[.slice (some ⟨b,off,none⟩) L cap,.int .i64 j] w fun e w'=>e=.returned (.int .u8 n)∧w=w':=by
 go_enter Tryz.func53,Tryz.ntmps53
 go_wp2
 go_ret
 exact ⟨rfl,rfl⟩
set_option maxRecDepth 100000 in
set_option maxHeartbeats 1000000 in
theorem fate_any (v:Value) (p:List UInt8) (j n:Nat) (w:World) (hr:Reads w v (byteVs p)) (hn:fate p j=n) :
 Calls Tryz.prog 53 #[v,.int .i64 j] w fun e w'=>e=.returned (.int .u8 n)∧w=w':=by
 unfold fate at hn
 rcases hr.cases with ⟨h0,a,cap,rfl⟩ | ⟨b,off,cap,rfl,hpos,hcap,hlt,hc⟩
 ·obtain rfl:p = []:=by simpa [byteVs] using h0
  obtain rfl:0=n:=hn
  clear hr h0
  go_enter Tryz.func53,Tryz.ntmps53
  go_wp2
  go_ret
  exact ⟨rfl,rfl⟩
 ·rw [byteVs_len] at hpos hcap ⊢
  rw [if_neg (by omega)] at hn
  have hjm:j % p.length < p.length:=Nat.mod_lt _ hpos
  have hcell:=hc (j % p.length) (.int .u8 (p[j % p.length].toNat:Nat)) (by unfold byteVs; rw [List.getElem?_map,List.getElem?_eq_getElem hjm]; rfl)
  have hg:p.getD (j % p.length) 0=p[j % p.length]:=by rw [List.getD_eq_getElem?_getD,List.getElem?_eq_getElem hjm]; rfl
  rw [hg] at hn
  have hem:((j:Int) % (p.length:Int))=((j % p.length:Nat):Int):=by omega
  exact fate_core b off p.length cap j (j % p.length) p[j % p.length].toNat n w hcell (by rw [beq_eq_false_iff_ne]; omega) (by rw [Int.tmod_eq_emod_of_nonneg (Int.natCast_nonneg _)]; exact hem) (Int.natCast_nonneg _) (Int.natCast_nonneg _) (by omega)
   (by rw [Int.tmod_eq_emod_of_nonneg (Int.natCast_nonneg _)]; omega) (by omega) hem (Int.natCast_nonneg _)
theorem RawF.reheaded {w':World} {f:Int→Option Value} {vs vq:Value} {m:Nat} (h:RawF w F g d f vs vq m) {gone:Bool} {k:Option Nat} (hb:Blk w' g 89 (diskCells vs vq m gone k.isSome (fuseOf k)))
 (far:∀ b,b≠g→w'.heap[b]? = w.heap[b]?) (hs:w.heap.size≤w'.heap.size):RawF w' F g { d with gone:=gone,fuse:=k } f vs vq m :=
 ⟨hb,own_keep h.safe fun b hb=>far b (fun e=>h.gs (by rw [hb,e])),own_keep h.wait fun b hb=>far b (fun e=>h.gq (by rw [hb,e])),h.last.keep (far m h.gm.symm),h.fg,h.fm,h.fs,h.fq,fun b hb=>Nat.lt_of_lt_of_le (h.lt b hb) hs⟩
theorem reset (h:IsDisk w F g d):IsDisk (((w.setCell ⟨g,3,none⟩ (.bool false)).setCell ⟨g,4,none⟩ (.bool false)).setCell ⟨g,5,none⟩ (.int .i64 0)) F g { d with gone:=false,fuse:=none } ∧
 Step F F w (((w.setCell ⟨g,3,none⟩ (.bool false)).setCell ⟨g,4,none⟩ (.bool false)).setCell ⟨g,5,none⟩ (.int .i64 0)):=by
 obtain ⟨ho,vs,vq,m,r⟩:=h
 have hb:=((r.head.set 3 (.bool false)).set 4 (.bool false)).set 5 (.int .i64 0)
 have far:∀ (w:World) (i:Nat) (v:Value) b,b≠g→(w.setCell ⟨g,i,none⟩ v).heap[b]? = w.heap[b]?:=fun w i v b hb=>heap_setCell_other w ⟨g,i,none⟩ b v hb
 refine ⟨⟨⟨ho.pos,ho.le,ho.sect,ho.wait,fun f hf=>(by cases hf)⟩,vs,vq,m,r.reheaded (gone:=false) (k:=none) hb (fun b h=>(far _ 5 _ b h).trans ((far _ 4 _ b h).trans (far _ 3 _ b h))) (by simp [World.setCell])⟩,?_⟩
 exact ((step_set r.fg).set (p:=⟨g,4,none⟩) r.fg _).set (p:=⟨g,5,none⟩) r.fg _
set_option maxRecDepth 100000 in
set_option maxHeartbeats 4000000 in
theorem crash_any (h:IsDisk w F g d) (v:Value) (p:List UInt8) (hr:Reads w v (byteVs p)) (hv:p≠[]→∀ b,v.ownBlock=some b→¬ F b) :
 Calls Tryz.prog 20 #[.pointer (some ⟨g,0,none⟩),v] w fun e w'=>e=.returned (.tuple #[])∧IsDisk w' F g (d.crash p)∧Step F F w w':=by
 have hcr:d.crash p = { { d.part (fate p) d.waits.length with waits:=[] } with gone:=false,fuse:=none }:=rfl
 rw [hcr]
 clear hcr
 obtain ⟨ho,vs,vq,m,r⟩:=h
 obtain ⟨b,cap,rfl,hcap⟩:=own_head ho r.safe
 have hn:=ho.le
 have HP:=Lib.hid hr
 have HV:Hid (byteVs p≠[]→∀ b,v.ownBlock=some b→¬ F b):=fun h=>hv (fun e=>h (by rw [e]; rfl))
 clear hr hv
 rcases own_any r.wait with ⟨rfl,h0,_⟩ | ⟨q,capq,rfl,hq,hqm⟩
 ·obtain ⟨_,c1,_⟩:=r.cells
  have hd:IsDisk w F g (d.part (fate p) d.waits.length):=by rw [h0]; exact ⟨ho,_,_,_,r⟩
  have HD:=Lib.hid hd
  clear r ho h0 hd
  go_enter Tryz.func20,Tryz.ntmps20
  go_wp2
  refine wp_loop_rounds 1 ?_
  rw [rounds_succ]
  go_wp2_with fail
  refine (dropWaits_any HD.out).mono ?_
  rintro e w2 ⟨rfl,hd2,s2⟩
  obtain ⟨hf,sf⟩:=reset hd2
  obtain ⟨_,_,_,_,r2⟩:=hd2
  obtain ⟨_,_,_,d3,d4,d5⟩:=r2.cells
  have f3:=r2.frozen 3
  have f4:=r2.frozen 4
  have f5:=r2.frozen 5
  have HF:=Lib.hid hf
  have SF:=Lib.hid (s2.trans sf)
  clear hf sf s2 r2 c1
  go_wp2
  go_end0
  exact ⟨rfl,HF.out,SF.out⟩
 ·obtain ⟨_,c1,_⟩:=r.cells
  have hl:d.waits.length≤9223372036854775807:=by unfold maxLen at hqm; omega
  have hin:∀ k (hk:k < d.waits.length),d.waits[k].1 < d.safe.length:=fun k hk=>(ho.wait _ (List.getElem_mem hk)).1
  have HIN:=Lib.hid hin
  have HO:=Lib.hid ho
  clear hin ho
  have HR:Hid (RawF w F g (d.part (fate p) 0) (lastV d.waits) (.slice (some ⟨b,0,none⟩) d.safe.length cap) (.slice (some ⟨q,0,none⟩) d.waits.length capq) m):=r
  clear r
  have hlen:∀ k,(d.part (fate p) k).safe.length=d.safe.length:=fun k=>settleTo_len _ _ _ _
  have HL:=Lib.hid hlen
  clear hlen
  go_enter Tryz.func20,Tryz.ntmps20
  go_wp2
  go_loopw [13] (fun i wr=>∃ k:Nat,k≤d.waits.length∧i=.int .i64 k∧RawF wr F g (d.part (fate p) k) (lastV d.waits) (.slice (some ⟨b,0,none⟩) d.safe.length cap) (.slice (some ⟨q,0,none⟩) d.waits.length capq) m∧Step F F w wr) (fun i _=>d.waits.length - (intOf i).toNat)
  case atStart=>exact ⟨0,Nat.zero_le _,rfl,HR.out,Step.refl _ _⟩
  case round =>
   obtain ⟨k,hk,rfl,hr,hst⟩:=hrel
   clear c1
   by_cases hlt:k < d.waits.length
   ·have hkl:=hlt
    obtain ⟨e0,e1⟩:=waitsV_at d.waits k hkl
    have hw:=hr.wait
    rw [show (d.part (fate p) k).waits=d.waits from rfl] at hw
    have q0:=(hw.cellAt (k*2) (by omega)).trans e0
    have q1:=(hw.cellAt (k*2+1) (by omega)).trans e1
    obtain ⟨c0,_⟩:=hr.cells
    have hi:=HIN.out k hkl
    have hx0:(0:Int)≤(d.waits[k].1:Int):=Int.natCast_nonneg _
    have hx1:(d.waits[k].1:Int) < (d.safe.length:Int):=by omega
    generalize hj:d.waits[k].1=j at *
    generalize hs:d.waits[k].2=s at *
    have HJ:=Lib.hid hj
    have HS:=Lib.hid hs
    clear hj hs hw e0 e1
    have rW:=hr.below ((Below.refl _ _).alloc (Nat.le_refl _) (.cells #[.int .i64 (j:Int),.string s] 112))
    have sW:=hst.alloc (.cells #[.int .i64 (j:Int),.string s] 112)
    have bx:Blk (wr.alloc (.cells #[.int .i64 (j:Int),.string s] 112)) wr.heap.size 112 #[.int .i64 (j:Int),.string s]:=Blk.new _ _ _
    have hp:=HP.out.step sW HV.out
    have hl1:(d.part (fate p) k).safe.length=d.safe.length:=HL.out k
    have hsafe:=rW.safe
    rw [hl1] at hsafe
    obtain ⟨u,hu⟩:∃ u,(strsV (d.part (fate p) k).safe)[j]? = some u:=⟨_,List.getElem?_eq_getElem (by rw [strsV_len,hl1]; exact hi)⟩
    have hpart:∀ n,fate p k=n→d.part (fate p) (k+1) = { d.part (fate p) k with safe:=settleOne n (j,s) (d.part (fate p) k).safe }:=fun n hn=>by
     unfold Dk.part
     rw [settleTo_succ _ _ _ _ hlt,hn]
     congr 2
     exact Prod.ext HJ.out HS.out
    have hf3:=fate_lt p k
    have RW:=Lib.hid rW
    have SW:=Lib.hid sW
    have BX:=Lib.hid bx
    have HPK:=Lib.hid hp
    have HPT:=Lib.hid hpart
    have HSF:=Lib.hid hsafe
    have HU:=Lib.hid hu
    have HL1:=Lib.hid hl1
    clear rW sW bx hp hpart hsafe hu hl1 hr hst
    rcases (show fate p k=0∨fate p k=1∨fate p k=2 by omega) with h0 | h1 | h2
    ·have hF:=fun W (hw:Reads W v (byteVs p))=>fate_any v p k 0 W hw h0
     have HF:=Lib.hid hF
     have R2:Hid (RawF (wr.alloc (.cells #[.int .i64 (j:Int),.string s] 112)) F g (d.part (fate p) (k+1)) (lastV d.waits) (.slice (some ⟨b,0,none⟩) d.safe.length cap) (.slice (some ⟨q,0,none⟩) d.waits.length capq) m):=by
      have:=RW.out
      show RawF _ _ _ _ _ _ _ _
      rw [HPT.out 0 h0]
      exact this
     clear hF h0 hf3 c0
     go_wp2_with fail
     refine (HF.out _ HPK.out).mono ?_
     rintro e w2 ⟨rfl,rfl⟩
     go_wp2
     go_roundw
     case rel=>exact ⟨k+1,by omega,by go_num,R2.out,SW.out⟩
     case measure=>simp [intOf]; omega
    ·have hF:=fun W (hw:Reads W v (byteVs p))=>fate_any v p k 1 W hw h1
     have HF:=Lib.hid hF
     have HH:=Lib.hid h1
     clear hF h1 hf3 c0
     go_wp2_with fail
     refine (HF.out _ HPK.out).mono ?_
     rintro e w2 ⟨rfl,rfl⟩
     have rW:=RW.out
     have bx:=BX.out
     have hsafe:=HSF.out
     have sW:=SW.out
     clear RW BX HSF SW HPK q0 q1
     generalize wr.heap.size=x at *
     generalize wr.alloc (.cells #[.int .i64 (j:Int),.string s] 112)=W at *
     have b0:=bx.cell 0
     have b1:=bx.cell 1
     obtain ⟨d0,_⟩:=rW.cells
     have e1:=(hsafe.cellAt j (by omega)).trans HU.out
     have f1:=hsafe.frozenAt j
     obtain ⟨r2,s2⟩:=rW.drew.stored HL1.out.symm j s
     have R2:Hid (RawF (W.drew.setCell ⟨b,j,none⟩ (.string s)) F g (d.part (fate p) (k+1)) (lastV d.waits) (.slice (some ⟨b,0,none⟩) d.safe.length cap) (.slice (some ⟨q,0,none⟩) d.waits.length capq) m):=by
      show RawF _ _ _ _ _ _ _ _
      rw [HPT.out 1 HH.out]
      exact r2
     have S2:=Lib.hid (sW.drew.trans s2)
     clear r2 s2 hsafe rW sW bx
     go_wp2_with fail
     go_still_tail 9,(by kernel_rfl)
     go_wp2
     go_roundw
     case rel=>exact ⟨k+1,by omega,by go_num,R2.out,S2.out⟩
     case measure=>simp [intOf]; omega
    ·have hF:=fun W (hw:Reads W v (byteVs p))=>fate_any v p k 2 W hw h2
     have HF:=Lib.hid hF
     have HH:=Lib.hid h2
     clear hF h2 hf3 c0
     go_wp2_with fail
     refine (HF.out _ HPK.out).mono ?_
     rintro e w2 ⟨rfl,rfl⟩
     have rW:=RW.out
     have bx:=BX.out
     have hsafe:=HSF.out
     have sW:=SW.out
     clear RW BX HSF SW HPK q0 q1
     generalize wr.heap.size=x at *
     generalize wr.alloc (.cells #[.int .i64 (j:Int),.string s] 112)=W at *
     have RW:=Lib.hid rW
     have BX:=Lib.hid bx
     have HSF:=Lib.hid hsafe
     have SW:=Lib.hid sW
     clear rW bx hsafe sW
     go_wp2_with fail
     refine' wp_region_conf 8 [.is _,.is _,.is _,.is _,.is _,.is _,.is _,.is _] (by kernel_rfl) (by kernel_rfl) (by kernel_rfl) (by kernel_rfl) rfl ?main
     case main =>
      iterate 8
       refine obs_is (fun w2 hE2 _=>?_) ?_
       ·have r2:=RW.out.drew.below hE2
        have bx:=BX.out.drew.keep hE2 BX.out.lt
        have b0:=bx.cell 0
        have b1:=bx.cell 1
        obtain ⟨d0,_⟩:=r2.cells
        clear r2 bx
        go_wp2_with (go_at_call 33; refine (zero_any _).mono ?_; rintro e w3 ⟨rfl,hb3⟩)
        first | exact post_is hb3 | exact post_is (Below.refl _ _)
       simp only [Act.put,sA,sB,sC]
      refine obs_end fun w3 hE3 _=>?_
      have r3:=RW.out.drew.below hE3
      have hsafe:=own_below HSF.out.drew hE3
      have e1:=(hsafe.cellAt j (by omega)).trans HU.out
      have f1:=hsafe.frozenAt j
      obtain ⟨r2,s2⟩:=r3.stored HL1.out.symm j zero128
      have R2:Hid (RawF (w3.setCell ⟨b,j,none⟩ (.string zero128)) F g (d.part (fate p) (k+1)) (lastV d.waits) (.slice (some ⟨b,0,none⟩) d.safe.length cap) (.slice (some ⟨q,0,none⟩) d.waits.length capq) m):=by
       show RawF _ _ _ _ _ _ _ _
       rw [HPT.out 2 HH.out]
       exact r2
      have S2:=Lib.hid ((SW.out.drew.more hE3).trans s2)
      clear r2 s2 hsafe r3
      change wpList _ _ _ _ _ _
      go_wp2
      go_roundw
      case rel=>exact ⟨k+1,by omega,by go_num,R2.out,S2.out⟩
      case measure=>simp [intOf]; omega
   ·obtain rfl:k=d.waits.length:=by omega
    go_wp2_with fail
    refine (dropWaits_any (⟨HO.out.part _ _,_,_,_,hr⟩:IsDisk wr F g (d.part (fate p) d.waits.length))).mono ?_
    rintro e w2 ⟨rfl,hd2,s2⟩
    obtain ⟨hf,sf⟩:=reset hd2
    obtain ⟨_,_,_,_,r2⟩:=hd2
    obtain ⟨_,_,_,d3,d4,d5⟩:=r2.cells
    have f3:=r2.frozen 3
    have f4:=r2.frozen 4
    have f5:=r2.frozen 5
    have HF:=Lib.hid hf
    have SF:=Lib.hid ((hst.trans s2).trans sf)
    clear hf sf s2 r2 hr hst
    go_wp2
    go_end0
    exact ⟨rfl,HF.out,SF.out⟩
end
end Go.Proofs.YthkbcfhjmnpggaaGreat

namespace Go.Proofs.YthkbcfhjmnpggaaGreat
open Go.RowKit
structure YieldS (S:Nat→Prop) where
 c:Option Value
 st:Bool
 p:Value→World→Prop
 mono:∀ x w w',Below w.heap.size w w'→p x w→p x w'
 monoS:st=false→∀ x w w',Only S w w'→p x w→p x w'
 tight:∀ d,c=some d→∀ x w,p x w→x=d
section
variable {S:Nat→Prop}
def YieldS.is (d:Value):YieldS S:=⟨some d,false,fun x _=>x=d,fun _ _ _ _ h=>h,fun _ _ _ _ _ h=>h,fun d' h x w e=>by cases h; exact e⟩
def YieldS.wrote (g:Nat) (t:TypeId) (cs:Array Value):YieldS S:=⟨none,true,fun _ w=>Blk w g t cs,fun _ _ _ hb h=>h.keep hb h.lt,fun h=>(by cases h),fun _ h=>by cases h⟩
def WRel (V:YieldS S) (w w':World):Prop:=if V.st=true then Only S w w' else Below w.heap.size w w'
def Have (V:YieldS S) (w w':World):Prop:=if V.st=true then Below w.heap.size w w' else Only S w w'
theorem WRel.only {V:YieldS S} {w0 w w':World} (h:WRel V w w') (h0:Only S w0 w):Only S w0 w':=by
 unfold WRel at h
 split at h
 · exact h0.trans h
 · exact h0.more h
theorem WRel.keep {V V':YieldS S} {w w':World} {x:Value} (h:WRel V w w') (hs:V.st=true→V'.st=true→False) (hp:V'.p x w):V'.p x w':=by
 unfold WRel at h
 split at h
 ·rename_i hv
  cases hv':V'.st with
  | true=>exact (hs hv hv').elim
  | false=>exact V'.monoS hv' _ _ _ h hp
 · exact V'.mono _ _ _ h hp
def noneSt:List Bool→Bool
 | []=>true
 | b::l=>!b && noneSt l
def oneSt:List Bool→Bool
 | []=>true
 | true::l=>noneSt l
 | false::l=>oneSt l
theorem noneSt_at:∀ {l:List Bool},noneSt l=true→∀ {i:Nat},l[i]? = some true→False
 | [],_,_,h=>by simp at h
 | b::l,h,0,hi=>by simp at hi; subst hi; simp [noneSt] at h
 | b::l,h,i+1,hi=>by
   simp only [noneSt,Bool.and_eq_true] at h
   exact noneSt_at h.2 (i:=i) (by simpa using hi)
theorem oneSt_at:∀ {l:List Bool},oneSt l=true→∀ {i j:Nat},l[i]? = some true→l[j]? = some true→i=j
 | [],_,_,_,h,_=>by simp at h
 | b::l,h,0,0,_,_=>rfl
 | b::l,h,0,j+1,hi,hj=>by
   simp at hi; subst hi
   exact (noneSt_at (l:=l) h (i:=j) (by simpa using hj)).elim
 | b::l,h,i+1,0,hi,hj=>by
   simp at hj; subst hj
   exact (noneSt_at (l:=l) h (i:=i) (by simpa using hi)).elim
 | b::l,h,i+1,j+1,hi,hj=>by
   cases b with
   | true=>exact (noneSt_at (l:=l) h (i:=i) (by simpa using hi)).elim
   | false=>rw [oneSt_at (l:=l) h (i:=i) (j:=j) (by simpa using hi) (by simpa using hj)]
theorem at_map {vs:List (YieldS S)} {i:Nat} {V:YieldS S} (h:vs[i]? = some V) (hs:V.st=true):(vs.map (·.st))[i]? = some true:=by rw [List.getElem?_map,h,← hs]; rfl
def PostS (V:YieldS S) (C:Act) (d:Option Tmp) (w1:World):Exit→Act→World→Prop
 | .normal,a,w=>∃ x,a=C.put d x∧V.p x w∧WRel V w1 w
 | _,_,_=>False
end
section
variable (P:Program) (ops:Array Oper) {S:Nat→Prop} (w0:World) (Q:Exit→Act→World→Prop)
def ObsS:Nat→List Oper→List (YieldS S)→Act→List (Nat × YieldS S × Value)→Prop
 | _,tail,[],C,kn=>∀ w,Only S w0 w→(∀ e ∈ kn,e.2.1.p e.2.2 w)→wpList P ops Q tail C w
 | _,[],_::_,_,_=>False
 | i,o::rest,V::Vs,C,kn =>
   (∀ w,Have V w0 w→(∀ e ∈ kn,Region.waitsFor .any ops i e.1=true→e.2.1.p e.2.2 w)→wpList P ops (PostS V C o.dst w) [o] C w) ∧
   match V.c with
   | some d=>ObsS (i+1) rest Vs (C.put o.dst d) kn
   | none=>∀ x,ObsS (i+1) rest Vs (C.put o.dst x) ((i,V,x)::kn)
end
section
variable {P:Program} {ops:Array Oper} {S:Nat→Prop}
theorem letsOut_postS {V:YieldS S} {C:Act} {d:Option Tmp} {w1:World}:¬ LetsOut (PostS V C d w1):=fun ⟨_,_,h⟩=>h
theorem uponS_move {o:Oper} {a C:Act} (hs:a.tmps.size=C.tmps.size) {V:YieldS S} {w1:World} {K:Act→World→Prop} {Q:Exit→Act→World→Prop}
 (hK:∀ x w,V.p x w→WRel V w1 w→K (a.put o.dst x) w) {r:Result Next} (h:o.upon P C (PostS V C o.dst w1 .normal) (PostS V C o.dst w1) r):o.upon P a K Q r:=by
 have any:∀ x w,PostS V C o.dst w1 .normal (C.put o.dst x) w→K (a.put o.dst x) w:=by
  rintro x w ⟨y,hy,hp,hb⟩
  rw [put_same hs hy]
  exact hK _ _ hp hb
 cases r with
 | ok n w' =>
   cases n <;> simp only [Oper.upon] at h ⊢
   case value x=>exact any _ _ h
   case skip=>exact any _ _ h
   case defer d =>
    obtain ⟨y,hy,_,_⟩:=h
    have e:=congrArg Act.defers hy
    rw [put_defers,put_defers] at e
    exact absurd (congrArg List.length e) (by simp)
   case enter f args =>
    refine h.mono fun e w'' he=>?_
    cases e with
    | returned v=>exact any _ _ he
    | panicked c=>exact (he:False).elim
    | outgrown=>exact absurd he letsOut_postS
   case row row args=>exact Rows.mono h fun v w'' he=>any _ _ he
 | halt x w'=>cases x <;> simp only [Oper.upon] at h ⊢ <;> exact (h:False).elim
end
section
variable {P:Program} {ops:Array Oper} {n:Nat} {S:Nat→Prop} {vs:List (YieldS S)} {w0:World} {a0:Act} {Q:Exit→Act→World→Prop}
def knownS {S:Nat→Prop} (vs:List (YieldS S)) (v:Nat→Value):Nat→List (Nat × YieldS S × Value)
 | 0=>[]
 | i+1=>match vs[i]? with
   | some V=>if V.c.isSome then knownS vs v i else (i,V,v i)::knownS vs v i
   | none=>knownS vs v i
theorem knownS_mem (v:Nat→Value):∀ {i:Nat} {e:Nat × YieldS S × Value},e ∈ knownS vs v i→e.1 < i∧vs[e.1]? = some e.2.1∧e.2.2=v e.1
 | 0,e,h=>by cases h
 | i+1,e,h=>by
   unfold knownS at h
   split at h
   ·rename_i V hV
    split at h
    · obtain ⟨h1,h2⟩:=knownS_mem v h; exact ⟨by omega,h2⟩
    ·rcases List.mem_cons.1 h with rfl | h
     · exact ⟨by simp,hV,rfl⟩
     · obtain ⟨h1,h2⟩:=knownS_mem v h; exact ⟨by omega,h2⟩
   · obtain ⟨h1,h2⟩:=knownS_mem v h; exact ⟨by omega,h2⟩
def FitsS {S:Nat→Prop} (vs:List (YieldS S)) (v:Nat→Value):Prop:=∀ i V d,vs[i]? = some V→V.c=some d→v i=d
theorem obsS_at (hO:ObsS P ops w0 Q 0 ops.toList vs a0 []) (hl:vs.length≤ops.size) {v:Nat→Value} (hf:FitsS vs v) :
 ∀ i,i≤vs.length→ObsS P ops w0 Q i (ops.toList.drop i) (vs.drop i) (pre ops a0 v i) (knownS vs v i)
 | 0,_=>by simp only [List.drop_zero]; exact hO
 | i+1,hi=>by
   have ih:=obsS_at hO hl hf i (by omega)
   rw [List.drop_eq_getElem_cons (by simp; omega:i < ops.toList.length),List.drop_eq_getElem_cons (by omega:i < vs.length)] at ih
   have hd:dstOf ops i=(ops.toList[i]'(by simp; omega)).dst:=by
    unfold dstOf
    rw [Array.getElem?_eq_getElem (by omega)]
    simp
   have hv:vs[i]? = some (vs[i]'(by omega)):=List.getElem?_eq_getElem (by omega)
   have h2:=ih.2
   rw [pre,hd]
   unfold knownS
   rw [hv]
   simp only
   cases hc:(vs[i]'(by omega)).c with
   | some d =>
     rw [hc] at h2
     rw [hf i _ d hv hc]
     simpa [hc] using h2
   | none =>
     rw [hc] at h2
     simpa [hc] using h2 (v i)
structure HeadS (ops:Array Oper) (n:Nat) {S:Nat→Prop} (vs:List (YieldS S)) (w0:World) (a0:Act) (v:Nat→Value) (listed:Array Bool) (a:Act) (w:World):Prop where
 frame:Fr ops a0 a v (fun k=>listed.getD k false) n
 closed:Closed ops listed
 size:listed.size=ops.size
 only:Only S w0 w
 quiet:(∀ i V,vs[i]? = some V→V.st=true→listed.getD i false=false)→Below w0.heap.size w0 w
 facts:∀ i V,vs[i]? = some V→listed.getD i false=true→V.p (v i) w
 fits:FitsS vs v
 tail:∀ t,n≤t→listed.getD t false=false
theorem HeadS.have_ {S:Nat→Prop} {vs:List (YieldS S)} {v:Nat→Value} {listed:Array Bool} {a:Act} {w:World} (H:HeadS ops n vs w0 a0 v listed a w) (hone:oneSt (vs.map (·.st))=true) {i:Nat} {V:YieldS S} (hvi:vs[i]? = some V) (hff:listed.getD i false=false):Have V w0 w:=by
 unfold Have
 split
 ·rename_i hs
  refine H.quiet fun j V' hj hs'=>?_
  rw [oneSt_at hone (at_map hj hs') (at_map hvi hs)]
  exact hff
 · exact H.only
theorem HeadS.next {S:Nat→Prop} {vs:List (YieldS S)} {v:Nat→Value} {listed:Array Bool} {a:Act} {w w':World} (H:HeadS ops n vs w0 a0 v listed a w) {i:Nat} {V:YieldS S} (hb:WRel V w w') (hvi:vs[i]? = some V) (hil:i < listed.size)
 (hq:∀ j V',vs[j]? = some V'→V'.st=true→(listed.setIfInBounds i true).getD j false=false):Below w0.heap.size w0 w':=by
 have hs:V.st=false:=by
  cases h:V.st with
  | false=>rfl
  | true=>have:=hq i V hvi h; simp [hil] at this
 unfold WRel at hb
 rw [hs] at hb
 refine below2 (H.quiet fun j V' hj hs'=>?_) (by simpa using hb)
 have h:=hq j V' hj hs'
 by_cases hji:i=j
 · subst hji; simp [hil] at h
 · rwa [getD_set_ne false hji] at h
theorem headS_pre {v:Nat→Value} {listed:Array Bool} {a:Act} {w:World} (H:HeadS ops n vs w0 a0 v listed a w) (hall:∀ i,i < n→listed.getD i false=true):a=pre ops a0 v n:=by
 refine act_ext (by rw [H.frame.defers,pre_defers]) fun t=>?_
 rw [H.frame.slot,pre_slot]
 exact slotv_congr fun k hk _=>⟨by rw [hall k hk],fun _=>rfl⟩
theorem confS_head (hok:regionOk ops n=true) (htl:tailOk ops n=true) (hn:n≤ops.size) (hlen:vs.length=n) (hone:oneSt (vs.map (·.st))=true) (hO:ObsS P ops w0 Q 0 ops.toList vs a0 []) :
 ∀ (fuel:Nat) (listed:Array Bool) (a:Act) (w:World) (v:Nat→Value),HeadS ops n vs w0 a0 v listed a w→cnt listed ops.size≤fuel→wpAny P .any ops Q fuel listed a w:=by
 intro fuel
 induction fuel with
 | zero =>
   intro listed a w v H hc
   have hall:∀ i,i < ops.size→listed.getD i false=true:=fun i hi=>by
    cases h:listed.getD i false with
    | true=>rfl
    | false =>
      have:=cnt_pos (listed:=listed) (i:=i) (by rw [getD_iff (by rw [H.size]; exact hi)]; exact h) hi
      omega
   have hnn:n=ops.size:=by
    rcases Nat.lt_or_ge n ops.size with h | h
    · have h1:=H.tail n (Nat.le_refl _); rw [hall n h] at h1; cases h1
    · omega
   have hF:=obsS_at hO (by omega) H.fits n (by omega)
   rw [← hlen,List.drop_length,hlen] at hF
   unfold ObsS at hF
   have hfin:=hF w H.only (fun e he=>by
    obtain ⟨h1,h2,h3⟩:=knownS_mem v he
    rw [h3]
    exact H.facts _ _ h2 (hall _ (by omega)))
   rw [← headS_pre H (fun i hi=>hall i (by omega))] at hfin
   exact conf_tail hok htl 0 n (by omega) (Nat.le_refl _) listed a w 0 H.size (fun i hi=>hall i (by omega)) (fun i hi=>H.tail i hi) hc hfin
 | succ fuel ih =>
   intro listed a w v H hc
   by_cases hall:∀ i,i < n→listed.getD i false=true
   ·have hF:=obsS_at hO (by omega) H.fits n (by omega)
    rw [← hlen,List.drop_length,hlen] at hF
    unfold ObsS at hF
    have hfin:=hF w H.only (fun e he=>by
     obtain ⟨h1,h2,h3⟩:=knownS_mem v he
     rw [h3]
     exact H.facts _ _ h2 (hall _ h1))
    rw [← headS_pre H hall] at hfin
    exact conf_tail hok htl (ops.size - n) n (by omega) (Nat.le_refl _) listed a w _ H.size hall (fun i hi=>H.tail i hi) hc hfin
   ·-- the least one that is not listed may come up
    have hex:∃ i,i < n∧listed.getD i false=false∧∀ j,j < i→listed.getD j false=true:=by
     have:∃ i,i < n∧listed.getD i false=false:=Classical.byContradiction fun hno=>hall fun i hi=>by
      cases h:listed.getD i false with
      | true=>rfl
      | false=>exact absurd ⟨i,hi,h⟩ hno
     obtain ⟨i,hi⟩:=this
     induction i using Nat.strongRecOn with
     | _ i ihn =>
       by_cases hj:∃ j,j < i∧listed.getD j false=false
       ·obtain ⟨j,hji,hjf⟩:=hj
        exact ihn j hji ⟨by omega,hjf⟩
       ·refine ⟨i,hi.1,hi.2,fun j hji=>?_⟩
        cases h:listed.getD j false with
        | true=>rfl
        | false=>exact absurd ⟨j,hji,h⟩ hj
    obtain ⟨l,hln,hlf,hlb⟩:=hex
    have hls:l < ops.size:=by omega
    have hlr:l ∈ Region.ready .any ops listed:=mem_ready.2 ⟨by rw [getD_iff (by rw [H.size]; exact hls)]; exact hlf,ops[l],Array.getElem?_eq_getElem hls,fun e he hb=>hlb e.on (ok_back hok (waits_iff.2 ⟨_,Array.getElem?_eq_getElem hls,e,he,hb,rfl⟩))⟩
    refine ⟨fun h=>(by rw [h] at hlr; cases hlr),fun i hi=>?_⟩
    obtain ⟨hf,o,ho,hdeps⟩:=mem_ready.1 hi
    have his:=lt_of_at ho
    have hw:∀ j,Region.waitsFor .any ops i j=true→listed.getD j false=true:=fun j hj=>by
     obtain ⟨o',ho',e,he,hb,rfl⟩:=waits_iff.1 hj
     have:o' = o:=Option.some.inj (ho'.symm.trans ho)
     subst this
     exact hdeps e he hb
    have hin:i < n:=by
     rcases Nat.lt_or_ge i n with h | h
     · exact h
     ·have:=ok_tail htl H.closed h his (i:=l) (by omega) hw
      rw [hlf] at this; cases this
    have hff:listed.getD i false=false:=by rw [← getD_iff (by rw [H.size]; exact his)]; exact hf
    have hF:=obsS_at hO (by omega) H.fits i (by omega)
    have hvi:vs[i]? = some (vs[i]'(by omega)):=List.getElem?_eq_getElem (by omega)
    generalize hV:vs[i]'(by omega)=V at hvi
    rw [List.drop_eq_getElem_cons (by simpa using his),List.drop_eq_getElem_cons (by omega:i < vs.length),hV] at hF
    have hoe:ops.toList[i]'(by simpa using his)=o:=by
     have:=(Array.getElem?_eq_some_iff.1 ho).2
     simpa using this
    rw [hoe] at hF
    have hstep:=hF.1 w (H.have_ hone hvi hff) (fun e he hwt=>by
     obtain ⟨h1,h2,h3⟩:=knownS_mem v he
     rw [h3]
     exact H.facts _ _ h2 (hw _ hwt))
    obtain ⟨hsel,hlook⟩:=ok_look hok hin ho
    have hslots:∀ t ∈ o.looksAt ops,a.tmps[t]? = (pre ops a0 v i).tmps[t]?:=fun t ht=>by
     rw [H.frame.slot,pre_slot]
     have e1:slotv ops a0 v (fun _=>true) i t=slotv ops a0 v (fun k=>decide (k < i)) n t:=by
      rw [slotv_beyond (m:=fun k=>decide (k < i)) (i:=i) (fun k hk=>by simp; omega) (by omega)]
      exact slotv_congr fun k hk _=>⟨by simp [hk],fun _=>rfl⟩
     rw [e1]
     refine slotv_congr fun k hk hkd=>⟨?_,fun _=>rfl⟩
     rcases hlook t ht k hk hkd with h | h
     ·rw [hw k h]
      have:=ok_back hok h
      simp [this]
     ·have hik:=ok_back hok h
      cases hkl:listed.getD k false with
      | true=>have:=H.closed k i hkl h; rw [hff] at this; cases this
      | false=>simp; omega
    have heval:∀ x ∈ o.op.operands,a.eval x=(pre ops a0 v i).eval x:=fun x hx=>by
     cases x with
     | tmp t =>
       have ht:t ∈ o.looksAt ops:=List.mem_append_left _ (List.mem_filterMap.2 ⟨.tmp t,by simpa using hx,rfl⟩)
       simp only [Act.eval,Array.getD_eq_getD_getElem?,hslots t ht]
     | _=>rfl
    have hexec:execOp a.eval o=execOp (pre ops a0 v i).eval o:=execOp_congr o hsel heval
    have hwant:=wanted_congr (ops:=ops) hslots
    have hsize:a.tmps.size=(pre ops a0 v i).tmps.size:=by rw [H.frame.size,pre_size]
    have hdst:dstOf ops i=o.dst:=by unfold dstOf; rw [ho]; rfl
    have hK:∀ x w',V.p x w'→WRel V w w'→wpAny P .any ops Q fuel (listed.setIfInBounds i true) (a.put o.dst x) w':=fun x w' hp hb=>by
     refine ih _ _ _ (fun k=>if k=i then x else v k) ?_ (by have:=cnt_set hf his; omega)
     have hil:i < listed.size:=by rw [H.size]; exact his
     refine ⟨⟨by rw [put_defers,H.frame.defers],by rw [put_size,H.frame.size],fun t=>?_⟩,?_,by simp [H.size],hb.only H.only,fun hq=>H.next hb hvi hil hq,?_,?_,fun t ht=>by rw [getD_set_ne false (by omega)]; exact H.tail t ht⟩
     · rw [put_slot,slotv_set hok (m:=fun k=>listed.getD k false) hin hff (by simp [hil]) (fun k hk=>getD_set_ne false (Ne.symm hk)),hdst,H.frame.size,H.frame.slot]
     ·intro j k hj hjk
      by_cases hji:i=j
      · subst hji; exact getD_set_true (hw k hjk)
      · rw [getD_set_ne false hji] at hj; exact getD_set_true (H.closed j k hj hjk)
     ·intro j V' hj hjl
      by_cases hji:j=i
      ·subst hji
       rw [hvi] at hj
       cases hj
       rw [if_pos rfl]; exact hp
      ·rw [getD_set_ne false (Ne.symm hji)] at hjl
       rw [if_neg hji]; exact hb.keep (fun h1 h2=>hji (oneSt_at hone (at_map hj h2) (at_map hvi h1))) (H.facts j V' hj hjl)
     ·intro j V' d hj hcd
      by_cases hji:j=i
      ·subst hji
       rw [hvi] at hj
       cases hj
       show (if j=j then x else v j)=d
       rw [if_pos rfl]; exact V.tight d hcd x w' hp
      ·show (if j=i then x else v j)=d
       rw [if_neg hji]; exact H.fits j V' d hj hcd
    unfold wpOp
    rw [ho]
    simp only
    unfold wpList at hstep
    rw [hwant]
    split
    ·rename_i hwt
     rw [if_pos hwt] at hstep
     refine .inl ?_
     rcases hstep with hs | ⟨_,hs⟩
     ·unfold Oper.wp at hs ⊢
      rw [hexec]
      exact uponS_move hsize hK hs
     · exact absurd hs letsOut_postS
    ·rename_i hwt
     rw [if_neg hwt] at hstep
     obtain ⟨y,hy,hp,hb⟩:=hstep
     rw [put_same hsize hy]
     exact hK _ _ hp hb
theorem wp_region_store {id:Nat} {a:Act} {w:World} (n:Nat) {S:Nat→Prop} (vs:List (YieldS S)) (hm:P.follows .mixedOrders=true) (hok:regionOk ops n=true) (htl:tailOk ops n=true)
 (hn:decide (n≤ops.size)=true) (hlen:vs.length=n) (hone:oneSt (vs.map (·.st))=true) (h:ObsS P ops w.drew Q 0 ops.toList vs a []):(Code.region id ops true).wp P Q a w:=by
 refine wp_region_any hm ?_
 have hn':n≤ops.size:=of_decide_eq_true hn
 have hall:∀ l,cnt (Array.replicate ops.size false) l≤l:=by
  intro l
  induction l with
  | zero=>exact Nat.le_refl _
  | succ l ih=>unfold cnt; split <;> omega
 refine confS_head (vs:=vs) (v:=fun i=>((vs[i]?).bind (·.c)).getD undef) hok htl hn' hlen hone h ops.size (Array.replicate ops.size false) a w.drew ⟨⟨rfl,rfl,fun t=>?_⟩,?_,by simp,Only.refl _ _,fun _=>Below.refl _ _,?_,?_,?_⟩ (hall _)
 · rw [slotv_off (fun k _ _=>getD_replicate_false _ _)]
 · intro i j hi _; rw [getD_replicate_false] at hi; cases hi
 · intro i V _ hi; rw [getD_replicate_false] at hi; cases hi
 · intro i V d hi hd; simp [hi,hd]
 · intro t _; exact getD_replicate_false _ _
end
section
variable {P:Program} {ops:Array Oper} {S:Nat→Prop} {w0:World} {Q:Exit→Act→World→Prop} {i:Nat} {o:Oper} {rest:List Oper} {Vs:List (YieldS S)} {C C':Act} {kn:List (Nat × YieldS S × Value)}
theorem postS_eq {d:Value} {C a:Act} {D:Option Tmp} {w1 w:World} (h:a=C.put D d) (hb:Below w1.heap.size w1 w):PostS (S:=S) (.is d) C D w1 .normal a w:=⟨d,h,rfl,hb⟩
theorem obsS_step {d:Value} (hw:Region.wanted o (yielded ops C.tmps)=true)
 (h1:∀ w,Only S w0 w→(∀ e ∈ kn,Region.waitsFor .any ops i e.1=true→e.2.1.p e.2.2 w)→wpList P #[] (PostS (S:=S) (.is d) C o.dst w) [{ o with guard:=none }] C w)
 (hC:C.put o.dst d=C') (h2:ObsS P ops w0 Q (i+1) rest Vs C' kn):ObsS P ops w0 Q i (o::rest) (.is d::Vs) C kn :=
 ⟨fun w hb hk=>step_bare letsOut_postS hw (h1 w hb hk),by subst hC; exact h2⟩
theorem postS_wrote {g t:Nat} {cs:Array Value} {C a:Act} {D:Option Tmp} {w1 w:World} (h:a=C.put D undef) (hb:Blk w g t cs) (ho:Only S w1 w):PostS (S:=S) (.wrote g t cs) C D w1 .normal a w:=⟨undef,h,hb,ho⟩
theorem obsS_wrote {g t:Nat} {cs:Array Value} (hw:Region.wanted o (yielded ops C.tmps)=true)
 (h1:∀ w,Below w0.heap.size w0 w→(∀ e ∈ kn,Region.waitsFor .any ops i e.1=true→e.2.1.p e.2.2 w)→wpList P #[] (PostS (S:=S) (.wrote g t cs) C o.dst w) [{ o with guard:=none }] C w)
 (hC:∀ x,C.put o.dst x=C') (h2:∀ x,ObsS P ops w0 Q (i+1) rest Vs C' ((i,.wrote g t cs,x)::kn)):ObsS P ops w0 Q i (o::rest) (.wrote g t cs::Vs) C kn :=
 ⟨fun w hb hk=>step_bare letsOut_postS hw (h1 w hb hk),fun x=>by have:=h2 x; rw [← hC x] at this; exact this⟩
theorem obsS_end {tail:List Oper} (h:∀ w,Only S w0 w→(∀ e ∈ kn,e.2.1.p e.2.2 w)→wpList P ops Q tail C w):ObsS P ops w0 Q i tail [] C kn:=by
 cases tail <;> exact h
end
end Go.Proofs.YthkbcfhjmnpggaaGreat

namespace Go.Proofs.YthkbcfhjmnpggaaGreat
open Go.RowKit
def logCells (gd:Nat) (l:Wl) (vb:Value):Array Value:=#[.pointer (some ⟨gd,0,none⟩),.int .i64 l.base,.int .i64 l.size,.int .i64 l.epoch,.int .i64 l.low,.int .i64 l.first,vb]
structure LogR (w:World) (F:Foot) (g gd:Nat) (l:Wl) (vb:Value) (n:Nat) (bs:List ByteArray):Prop where
 head:Blk w g 91 (logCells gd l vb)
 rows:w.ownsRow 0 9 1 vb n (strsV bs)
 fg:F g
 fv:∀ b,vb.ownBlock=some b→F b
 lt:∀ b,F b→b < w.heap.size
abbrev LogF (w:World) (F:Foot) (g gd:Nat) (l:Wl) (vb:Value):Prop:=LogR w F g gd l vb l.secs.length (l.secs.map bodyS)
def IsLog (w:World) (F:Foot) (g gd:Nat) (l:Wl):Prop:=l.Ok∧∃ vb,LogF w F g gd l vb
namespace LogR
variable {w w':World} {F:Foot} {g gd:Nat} {l:Wl} {vb:Value} {n:Nat} {bs:List ByteArray}
theorem keep (h:LogR w F g gd l vb n bs) (hk:∀ b,F b→w'.heap[b]? = w.heap[b]?) (hs:w.heap.size≤w'.heap.size):LogR w' F g gd l vb n bs :=
 ⟨(hk g h.fg).trans h.head,own_keep h.rows fun b hb=>hk b (h.fv b hb),h.fg,h.fv,fun b hb=>Nat.lt_of_lt_of_le (h.lt b hb) hs⟩
theorem below (h:LogR w F g gd l vb n bs) (hb:Below w.heap.size w w'):LogR w' F g gd l vb n bs:=h.keep (fun b hF=>hb.block b (h.lt b hF)) hb.size
theorem only (h:LogR w F g gd l vb n bs) {S:Nat→Prop} (hb:Only S w w') (hS:∀ b,F b→¬ S b):LogR w' F g gd l vb n bs:=h.keep (fun b hF=>hb.block b (h.lt b hF) (hS b hF)) hb.size
theorem drew (h:LogR w F g gd l vb n bs):LogR w.drew F g gd l vb n bs:=h.keep (fun _ _=>rfl) (Nat.le_refl _)
theorem cells (h:LogR w F g gd l vb n bs):w.cell? ⟨g,0,none⟩=some (.pointer (some ⟨gd,0,none⟩))∧w.cell? ⟨g,1,none⟩=some (.int .i64 l.base)∧w.cell? ⟨g,2,none⟩=some (.int .i64 l.size)∧w.cell? ⟨g,3,none⟩=some (.int .i64 l.epoch) ∧
 w.cell? ⟨g,4,none⟩=some (.int .i64 l.low)∧w.cell? ⟨g,5,none⟩=some (.int .i64 l.first)∧w.cell? ⟨g,6,none⟩=some vb :=
 ⟨h.head.cell 0,h.head.cell 1,h.head.cell 2,h.head.cell 3,h.head.cell 4,h.head.cell 5,h.head.cell 6⟩
theorem vg (h:LogR w F g gd l vb n bs):vb.ownBlock≠some g:=own_blk h.rows h.head (by decide)
theorem strsV_set' (bs:List ByteArray) (j:Nat) (s:ByteArray):(strsV bs).set j (.string s)=strsV (bs.set j s):=by simp [strsV,List.map_set]
theorem stored {g2 cap:Nat} (h:LogR w F g gd l (.slice (some ⟨g2,0,none⟩) n cap) n bs) (j:Nat) (s:ByteArray) :
 LogR (w.setCell ⟨g2,j,none⟩ (.string s)) F g gd l (.slice (some ⟨g2,0,none⟩) n cap) n (bs.set j s)∧Step F F w (w.setCell ⟨g2,j,none⟩ (.string s)):=by
 have hb:(Value.slice (some ⟨g2,0,none⟩) n cap).ownBlock=some g2:=rfl
 have so:=(h.rows.stored j (.string s)).1
 rw [strsV_set'] at so
 exact ⟨⟨(heap_setCell_other w ⟨g2,j,none⟩ g _ fun e=>h.vg (by rw [hb,e])).trans h.head,so,h.fg,h.fv,fun c hc=>by simpa [World.setCell] using h.lt c hc⟩,(Step.refl F w).set (p:=⟨g2,j,none⟩) (h.fv g2 hb) _⟩
theorem pushed (h:LogR w F g gd l vb n bs) {gg cap:Nat} {s:ByteArray} (hown:w'.ownsRow 0 9 1 (.slice (some ⟨gg,0,none⟩) (n+1) cap) (n+1) (strsV bs++[.string s])) (hg:w.grownBy w' vb.ownBlock) (hat:vb.ownBlock=some gg∨gg=w.heap.size) (hlt:gg < w'.heap.size) :
 LogR (w'.setCell ⟨g,6,none⟩ (.slice (some ⟨gg,0,none⟩) (n+1) cap)) (fun b=>F b∨b=gg) g gd l (.slice (some ⟨gg,0,none⟩) (n+1) cap) (n+1) (bs++[s])∧Step F (fun b=>F b∨b=gg) w (w'.setCell ⟨g,6,none⟩ (.slice (some ⟨gg,0,none⟩) (n+1) cap)):=by
 have hh:Blk w' g 91 (logCells gd l vb):=(hg.block g h.head.lt fun e=>h.vg e.symm).trans h.head
 have hne:gg≠g:=fun e=>own_blk hown hh (by decide) (by rw [← e]; rfl)
 refine ⟨⟨hh.set 6 _,?_,.inl h.fg,fun b hb=>by simp only [Value.ownBlock,Option.some.injEq] at hb; exact .inr hb.symm,fun b hb=>?_⟩,?_⟩
 ·rw [show strsV (bs++[s])=strsV bs++[.string s] by simp [strsV]]
  exact own_keep hown fun b hb=>heap_setCell_other w' ⟨g,6,none⟩ b _ fun e=>by simp only [Value.ownBlock,Option.some.injEq] at hb; exact hne (by rw [hb,e])
 ·have:b < w'.heap.size:=by
   rcases hb with hb | rfl
   · exact Nat.lt_of_lt_of_le (h.lt b hb) hg.size
   · exact hlt
  simpa [World.setCell] using this
 ·refine Step.set (w':=w') ?_ (p:=⟨g,6,none⟩) (.inl h.fg) _
  exact ⟨hg.os,hg.tape,hg.output,hg.size,fun b hb hf=>hg.block b hb fun e=>hf (h.fv b e.symm),fun b hb=>hb.elim .inl fun e=>by
   subst e
   rcases hat with hat | hat
   · exact .inl (h.fv b hat)
   · exact .inr (by omega)⟩
end LogR
theorem IsLog.below {w w':World} {F:Foot} {g gd:Nat} {l:Wl} (h:IsLog w F g gd l) (hb:Below w.heap.size w w'):IsLog w' F g gd l:=⟨h.1,h.2.elim fun vb r=>⟨vb,r.below hb⟩⟩
theorem IsLog.only {w w':World} {F:Foot} {g gd:Nat} {l:Wl} (h:IsLog w F g gd l) {S:Nat→Prop} (hb:Only S w w') (hS:∀ b,F b→¬ S b):IsLog w' F g gd l:=⟨h.1,h.2.elim fun vb r=>⟨vb,r.only hb hS⟩⟩
theorem IsLog.lt {w:World} {F:Foot} {g gd:Nat} {l:Wl} (h:IsLog w F g gd l):∀ b,F b→b < w.heap.size:=h.2.elim fun _ r=>r.lt
def IsLog0 (w:World) (F:Foot) (g gd:Nat) (l:Wl):Prop:=(8≤l.size∧l.size≤64∧l.base+l.size≤512∧l.low≤2147483647)∧∃ vb n bs,LogR w F g gd l vb n bs
theorem IsLog.zero {w:World} {F:Foot} {g gd:Nat} {l:Wl} (h:IsLog w F g gd l):IsLog0 w F g gd l:=⟨⟨h.1.s8,h.1.s64,h.1.b0,h.1.lm⟩,h.2.elim fun vb r=>⟨vb,_,_,r⟩⟩
theorem IsLog0.below {w w':World} {F:Foot} {g gd:Nat} {l:Wl} (h:IsLog0 w F g gd l) (hb:Below w.heap.size w w'):IsLog0 w' F g gd l:=⟨h.1,h.2.elim fun vb h=>h.elim fun n h=>h.elim fun bs r=>⟨vb,n,bs,r.below hb⟩⟩
theorem IsLog0.cells {w:World} {F:Foot} {g gd:Nat} {l:Wl} (h:IsLog0 w F g gd l):w.cell? ⟨g,0,none⟩=some (.pointer (some ⟨gd,0,none⟩))∧w.cell? ⟨g,1,none⟩=some (.int .i64 l.base)∧w.cell? ⟨g,2,none⟩=some (.int .i64 l.size)∧w.cell? ⟨g,4,none⟩=some (.int .i64 l.low):=by
 obtain ⟨_,vb,n,bs,r⟩:=h
 obtain ⟨c0,c1,c2,_,c4,_⟩:=r.cells
 exact ⟨c0,c1,c2,c4⟩
def Peeks (w:World) (v:Value) (e:Ending) (w':World):Prop:=e=.returned v∧∃ n,w' = w.drewN n
theorem drewN_below (w:World) (n:Nat):Below w.heap.size w (w.drewN n):=⟨rfl,rfl,rfl,Nat.le_refl _,fun _ _=>rfl⟩
section
variable {w:World} {F:Foot} {g gd:Nat} {l:Wl}
set_option maxRecDepth 100000 in
set_option maxHeartbeats 2000000 in
theorem end_any (h:IsLog w F g gd l):Calls Tryz.prog 43 #[.pointer (some ⟨g,0,none⟩)] w (Peeks w (.int .i64 l.end_)):=by
 obtain ⟨ok,vb,r⟩:=h
 obtain ⟨va,vc,hvs⟩:=own_slice r.rows
 subst hvs
 obtain ⟨_,_,_,_,c4,_,c6⟩:=r.cells
 have h1:(l.low:Int)≤2147483647:=by have:=ok.lm; omega
 have h2:(l.secs.length:Int)≤64:=by have:=ok.len; have:=ok.s64; omega
 clear r ok
 unfold Wl.end_
 generalize l.low=x at *
 generalize l.secs.length=y at *
 go_enter Tryz.func43,Tryz.ntmps43
 go_wp2
 go_quiet (fail)
 go_wp2
 go_ret
 exact ⟨by rw [Int.natCast_add]; rfl,_,rfl⟩
set_option maxRecDepth 100000 in
set_option maxHeartbeats 2000000 in
theorem place_any (h:IsLog0 w F g gd l) (k:Nat) (hk:k≤4294967296):Calls Tryz.prog 76 #[.pointer (some ⟨g,0,none⟩),.int .i64 k] w (Peeks w (.int .i64 ((l.base+k % l.size:Nat):Int))):=by
 obtain ⟨_,c1,c2,_⟩:=h.cells
 obtain ⟨⟨s8,s64,b0,_⟩,_⟩:=h
 have h1:(l.base:Int)≤512:=by omega
 have h2:(l.size:Int)≤64:=by omega
 have h3:(8:Int)≤l.size:=by omega
 have h4:(k:Int)≤4294967296:=by omega
 clear s8 s64 b0
 generalize l.base=x at *
 generalize l.size=y at *
 have hm:(k:Int) % (y:Int) < 64:=by have:=Int.emod_lt_of_pos (k:Int) (show (0:Int) < y by omega); omega
 have hm0:0≤(k:Int) % (y:Int):=Int.emod_nonneg _ (by omega)
 go_enter Tryz.func76,Tryz.ntmps76
 go_wp2
 go_quiet (fail)
 go_wp2
 go_ret
 exact ⟨by rw [Int.natCast_add,Int.natCast_emod]; rfl,_,rfl⟩
set_option maxRecDepth 100000 in
set_option maxHeartbeats 2000000 in
theorem low_any (h:IsLog w F g gd l):Calls Tryz.prog 81 #[.pointer (some ⟨g,0,none⟩)] w fun e w'=>e=.returned (.int .i64 l.low)∧w=w':=by
 obtain ⟨ok,vb,r⟩:=h
 obtain ⟨_,_,_,_,c4,_⟩:=r.cells
 clear r ok
 generalize l.low=x at *
 go_enter Tryz.func81,Tryz.ntmps81
 go_wp2
 go_ret
 exact ⟨rfl,rfl⟩
set_option maxRecDepth 100000 in
set_option maxHeartbeats 2000000 in
theorem safe_any (h:IsLog w F g gd l) (at_:Nat) (ha:at_≤1099511627776) (b:Bool) (hb:b=decide (at_ / 128 < l.first)):Calls Tryz.prog 50 #[.pointer (some ⟨g,0,none⟩),.int .i64 at_] w fun e w'=>e=.returned (.bool b)∧w=w':=by
 obtain ⟨ok,vb,r⟩:=h
 obtain ⟨_,_,_,_,_,c5,_⟩:=r.cells
 have HB:=Lib.hid hb
 have ha1:(at_:Int)≤1099511627776:=by omega
 clear r ok hb ha
 generalize l.first=x at *
 go_enter Tryz.func50,Tryz.ntmps50
 go_wp2
 go_ret
 refine ⟨?_,rfl⟩
 show Ending.returned (.bool (decide ((at_:Int) / 128 < (x:Int))))=_
 rw [HB.out]
 congr 2
 exact decide_eq_decide.2 (by omega)
def Wl.openNo (l:Wl):Nat:=if l.end_=l.first then l.end_ else l.end_ - 1
def Wl.openRs (l:Wl):List Rc:=if l.end_=l.first then [] else l.secs.getLastD []
set_option maxRecDepth 100000 in
set_option maxHeartbeats 2000000 in
theorem open_any (h:IsLog w F g gd l):Calls Tryz.prog 39 #[.pointer (some ⟨g,0,none⟩)] w (Peeks w (.tuple #[.int .i64 l.openNo,.string (bodyS l.openRs)])):=by
 have H1:=Lib.hid (end_any h)
 obtain ⟨ok,vb,r⟩:=h
 obtain ⟨va,vc,hvs⟩:=own_slice r.rows
 subst hvs
 obtain ⟨_,_,_,_,c4,c5,c6⟩:=r.cells
 unfold Wl.openNo Wl.openRs
 have h1:(l.end_:Int)≤2147483711:=by have:=ok.lm; have:=ok.len; have:=ok.s64; unfold Wl.end_; omega
 by_cases he:l.end_=l.first
 ·rw [if_pos he,if_pos he]
  rw [← he] at c5
  clear r ok he
  generalize l.end_=x at *
  go_enter Tryz.func39,Tryz.ntmps39
  go_wp2_with fail
  refine H1.out.mono ?_
  rintro e w1 ⟨rfl,n,rfl⟩
  go_wp2
  go_ret2
  exact ⟨rfl,n,rfl⟩
 ·rw [if_neg he,if_neg he]
  have hne:((l.end_:Int) == l.first)=false:=by simp; omega
  have hpos:0 < l.secs.length:=by have:=ok.fe; have:=ok.fl; unfold Wl.end_ at *; omega
  obtain ⟨g2,cap,hv,hc1,hc2⟩:=own_form r.rows hpos
  obtain ⟨i,x,e⟩:=Wl.snoc_of hpos
  obtain ⟨y,hy⟩:∃ y,l.secs.length=y+1:=⟨l.secs.length - 1,by omega⟩
  have cl:w.cell? ⟨g2,y,none⟩=some (.string (bodyS (l.secs.getLastD []))):=by
   have hr:=r.rows
   rw [hv] at hr
   rw [hr.cellAt y (by omega)]
   have:i.length=y:=by rw [e] at hy; simpa using hy
   rw [e,Wl.lastD_snoc]
   simp [strsV,this]
  cases hv
  rw [hy] at c6
  have g1:(y:Int)+1≤64:=by have:=ok.len; have:=ok.s64; omega
  have g0:(y:Int) < ((y+1:Nat):Int):=by omega
  have hz:((l.end_ - 1:Nat):Int)=(l.end_:Int) - 1:=by have:=ok.l1; unfold Wl.end_; omega
  have hz1:(1:Int)≤l.end_:=by have:=ok.l1; unfold Wl.end_; omega
  rw [hz]
  clear r ok he hpos hy hz e hc1 hc2
  generalize l.end_=x at *
  generalize l.first=f at *
  generalize bodyS (l.secs.getLastD [])=b at *
  go_enter Tryz.func39,Tryz.ntmps39
  go_wp2_with fail
  refine H1.out.mono ?_
  rintro e w1 ⟨rfl,n,rfl⟩
  go_wp2
  go_quiet (fail)
  go_wp2
  go_ret2
  exact ⟨rfl,n+nq,by rw [World.drewN_drewN]⟩
end
end Go.Proofs.YthkbcfhjmnpggaaGreat
