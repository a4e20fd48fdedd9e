/- Texts that belong together, joined: DiskB, DiskC, DiskD, DiskE, DiskF, Lists. -/
import Derived.Test.YthkbcfhjmnpggaaGreatK09
import Derived.Deep.RegionHeld3
import Derived.StillTailTactics
import Derived.Deep.RegionLaw
import Derived.Test.YthkbcfhjmnpggaaGreatK00
import Derived.Deep.Slices
namespace Go.Proofs.YthkbcfhjmnpggaaGreat
open Go.RowKit
section
variable {w:World} {F:Foot} {g:Nat} {d:Dk}
theorem step_set {v:Value} {i:Nat} (hg:F g):Step F F w (w.setCell ⟨g,i,none⟩ v):=(Step.refl F w).set (p:=⟨g,i,none⟩) hg v
set_option maxRecDepth 100000 in
set_option maxHeartbeats 1000000 in
theorem bears_any (h:IsDisk w F g d) (b:Bool) (hb:b=d.bears) :
 Calls Tryz.prog 77 #[.pointer (some ⟨g,0,none⟩)] w fun e w'=>e=.returned (.bool b)∧IsDisk w' F g d.burn∧Step F F w w':=by
 obtain ⟨ho,vs,vq,m,r⟩:=h
 have hob:=ho.burn
 obtain ⟨_,_,_,c3,c4,c5⟩:=r.cells
 have f3:=r.frozen 3
 have f5:=r.frozen 5
 have hsg:=fun v i=>@step_set w F g v i r.fg
 obtain ⟨safe,waits,gone,fuse⟩:=d
 cases fuse with
 | none =>
   cases gone with
   | false =>
     obtain rfl:b=true:=hb
     have hd:IsDisk w F g (Dk.mk safe waits false none).burn:=⟨hob,vs,vq,m,r⟩
     have HD:=Lib.hid hd
     clear hd r ho hob hsg
     go_enter Tryz.func77,Tryz.ntmps77
     go_wp2
     go_ret
     exact ⟨rfl,HD.out,Step.refl _ _⟩
   | true =>
     obtain rfl:b=false:=hb
     have hd:IsDisk w F g (Dk.mk safe waits true none).burn:=⟨hob,vs,vq,m,r⟩
     have HD:=Lib.hid hd
     clear hd r ho hob hsg
     go_enter Tryz.func77,Tryz.ntmps77
     go_wp2
     go_ret
     exact ⟨rfl,HD.out,Step.refl _ _⟩
 | some f =>
   cases f with
   | zero =>
     obtain rfl:b=false:=by rw [hb]; cases gone <;> rfl
     have hd:IsDisk (w.setCell ⟨g,3,none⟩ (.bool true)) F g (Dk.mk safe waits gone (some 0)).burn:=by
      have e:(Dk.mk safe waits gone (some 0)).burn=Dk.mk safe waits true (some 0):=by cases gone <;> rfl
      refine ⟨hob,vs,vq,m,?_⟩
      rw [e]
      exact r.setGone true
     have HD:=Lib.hid hd
     have HS:=Lib.hid (hsg (.bool true) 3)
     have e5:((0:Int) == 0)=true:=rfl
     change w.cell? _=some (.int .i64 0) at c5
     clear hd r ho hob hsg hb
     go_enter Tryz.func77,Tryz.ntmps77
     go_wp2
     go_ret
     exact ⟨rfl,HD.out,HS.out⟩
   | succ f =>
     change w.cell? _=some (.int .i64 ((f+1:Nat):Int)) at c5
     have hlt:=ho.fuse (f+1) rfl
     have e5:(((f+1:Nat):Int) == 0)=false:=by rw [beq_eq_false_iff_ne]; omega
     have ew:IntKind.i64.wrap (((f+1:Nat):Int) - 1)=(f:Int):=by
      rw [IntKind.wrap_i64]; omega
     cases gone with
     | true =>
       obtain rfl:b=false:=hb
       have hd:IsDisk w F g (Dk.mk safe waits true (some (f+1))).burn:=⟨hob,vs,vq,m,r⟩
       have HD:=Lib.hid hd
       generalize ((f+1:Nat):Int)=x at *
       clear hd r ho hob hsg hlt ew
       go_enter Tryz.func77,Tryz.ntmps77
       go_wp2
       go_ret
       exact ⟨rfl,HD.out,Step.refl _ _⟩
     | false =>
       obtain rfl:b=true:=hb
       have hd:IsDisk (w.setCell ⟨g,5,none⟩ (.int .i64 (f:Int))) F g (Dk.mk safe waits false (some (f+1))).burn :=
        ⟨hob,vs,vq,m,r.setArmed 5 (.int .i64 (f:Int)) (k:=some f) (gone:=false) rfl⟩
       have HD:=Lib.hid hd
       have HS:=Lib.hid (hsg (.int .i64 (f:Int)) 5)
       generalize ((f+1:Nat):Int)=x at *
       generalize (f:Int)=y at *
       clear hd r ho hob hsg hlt
       go_enter Tryz.func77,Tryz.ntmps77
       go_wp2
       go_ret
       exact ⟨rfl,HD.out,HS.out⟩
set_option maxRecDepth 100000 in
set_option maxHeartbeats 1000000 in
theorem reach_any (h:IsDisk w F g d) (i:Int) (n:Nat) (hn:d.reachE i=n) :
 Calls Tryz.prog 109 #[.pointer (some ⟨g,0,none⟩),.int .i64 i] w fun e w'=>e=.returned (.int .i64 n)∧w=w':=by
 have hhas:=has_any h i
 obtain ⟨ho,vs,vq,m,r⟩:=h
 obtain ⟨_,_,_,c3,_⟩:=r.cells
 unfold Dk.reachE at hn
 cases hg:d.gone with
 | true =>
   rw [hg] at hn c3
   obtain rfl:4=n:=hn
   clear hhas r ho hg
   go_enter Tryz.func109,Tryz.ntmps109
   go_wp2
   go_ret
   exact ⟨rfl,rfl⟩
 | false =>
   rw [hg] at hn c3
   by_cases hi:d.has i
   ·rw [if_pos hi] at hn
    obtain rfl:0=n:=hn
    have H:=Lib.hid (hhas true (by simp [hi]))
    clear hhas r ho hg hi
    go_enter Tryz.func109,Tryz.ntmps109
    go_wp2_with fail
    refine H.out.mono ?_
    rintro e w1 ⟨rfl,rfl⟩
    go_wp2
    go_ret
    exact ⟨rfl,rfl⟩
   ·rw [if_neg hi] at hn
    obtain rfl:2=n:=hn
    have H:=Lib.hid (hhas false (by simp [hi]))
    clear hhas r ho hg hi
    go_enter Tryz.func109,Tryz.ntmps109
    go_wp2_with fail
    refine H.out.mono ?_
    rintro e w1 ⟨rfl,rfl⟩
    go_wp2
    go_ret
    exact ⟨rfl,rfl⟩
theorem clear_run (w:World) (m:Nat) (f:Int→Option Value) (h:IsMap w m f):∃ o,(Builtin.clear_ #[86] 0 #[.map (some m)]).run Tryz.prog w=.ok (.tuple #[]) { w with heap:=w.heap.setIfInBounds m o }∧IsMap { w with heap:=w.heap.setIfInBounds m o } m fun _=>none :=
 h.clear Tryz.underlying86 0
end
end Go.Proofs.YthkbcfhjmnpggaaGreat

namespace Go.Proofs.YthkbcfhjmnpggaaGreat
open Go.RowKit
section
variable {w:World} {F:Foot} {g:Nat} {d:Dk}
set_option maxRecDepth 100000 in
set_option maxHeartbeats 1000000 in
theorem dropWaits_any (h:IsDisk w F g d) :
 Calls Tryz.prog 54 #[.pointer (some ⟨g,0,none⟩)] w fun e w'=>e=.returned (.tuple #[])∧IsDisk w' F g { d with waits:=[] }∧Step F F w w':=by
 obtain ⟨ho,vs,vq,m,r⟩:=h
 obtain ⟨_,c1,c2,_⟩:=r.cells
 have f1:=r.frozen 1
 obtain ⟨a1,a2,_,a4,a5⟩:=r.head_set 1 (.slice none 0 0) r.safe
 obtain ⟨o,hrun,hm⟩:=clear_run _ m _ a4
 have e2:(w.setCell ⟨g,1,none⟩ (.slice none 0 0)).cell? ⟨g,2,none⟩=some (.map (some m)):=a1.cell 2
 have hs:Step F F w { (w.setCell ⟨g,1,none⟩ (.slice none 0 0)) with heap:=(w.setCell ⟨g,1,none⟩ (.slice none 0 0)).heap.setIfInBounds m o }:=(step_set r.fg).setObj r.fm o
 have hd:IsDisk { (w.setCell ⟨g,1,none⟩ (.slice none 0 0)) with heap:=(w.setCell ⟨g,1,none⟩ (.slice none 0 0)).heap.setIfInBounds m o } F g { d with waits:=[] }:=by
  have far:∀ b,b≠m→((w.setCell ⟨g,1,none⟩ (.slice none 0 0)).heap.setIfInBounds m o)[b]? = (w.setCell ⟨g,1,none⟩ (.slice none 0 0)).heap[b]?:=fun b hb=>by
   rw [Array.getElem?_setIfInBounds,if_neg (Ne.symm hb)]
  refine ⟨⟨ho.pos,ho.le,ho.sect,fun x hx=>(by cases hx),ho.fuse⟩,vs,.slice none 0 0,m,?_⟩
  exact ⟨(far g r.gm).trans a1,own_keep a2 fun b hb=>far b (fun e=>r.sm (by rw [hb,e])),World.ownsRow_nil _ _ _ _,hm,r.fg,r.fm,r.fs,fun b hb=>by simp [Value.ownBlock] at hb,fun b hb=>by simpa using r.lt b hb⟩
 have HD:=Lib.hid hd
 have HS:=Lib.hid hs
 generalize (w.setCell ⟨g,1,none⟩ (.slice none 0 0)).heap.setIfInBounds m o=hp at *
 clear hd hs hm a1 a2 a4 a5 r ho
 go_enter Tryz.func54,Tryz.ntmps54
 go_wp2
 go_end0
 exact ⟨rfl,HD.out,HS.out⟩
set_option maxRecDepth 100000 in
set_option maxHeartbeats 1000000 in
theorem arm_any (h:IsDisk w F g d) (k:Int) (hk:k < 9223372036854775808) :
 Calls Tryz.prog 19 #[.pointer (some ⟨g,0,none⟩),.int .i64 k] w fun e w'=>e=.returned (.tuple #[])∧IsDisk w' F g (d.arm k)∧Step F F w w':=by
 obtain ⟨ho,vs,vq,m,r⟩:=h
 obtain ⟨_,_,_,_,c4,c5⟩:=r.cells
 have f4:=r.frozen 4
 have f5:=r.frozen 5
 have hoa:=ho.arm k hk
 clear hk
 by_cases h0:0≤k
 ·have hd:IsDisk ((w.setCell ⟨g,4,none⟩ (.bool true)).setCell ⟨g,5,none⟩ (.int .i64 k)) F g (d.arm k):=by
   refine ⟨hoa,vs,vq,m,?_⟩
   have e:d.arm k = { d with fuse:=some k.toNat }:=by simp [Dk.arm,h0]
   rw [e]
   obtain ⟨a1,a2,a3,a4,a5⟩:=r.head_set 4 (.bool true) r.safe
   have hb:=a1.set 5 (.int .i64 k)
   have eb:((diskCells vs vq m d.gone d.fuse.isSome (fuseOf d.fuse)).setIfInBounds 4 (.bool true)).setIfInBounds 5 (.int .i64 k)=diskCells vs vq m d.gone true (fuseOf (some k.toNat)):=by
    simp [diskCells,fuseOf,Int.toNat_of_nonneg h0]
   rw [eb] at hb
   have far:∀ b,b≠g→((w.setCell ⟨g,4,none⟩ (.bool true)).setCell ⟨g,5,none⟩ (.int .i64 k)).heap[b]? = (w.setCell ⟨g,4,none⟩ (.bool true)).heap[b]?:=fun b hb=>heap_setCell_other _ ⟨g,5,none⟩ b _ hb
   exact ⟨hb,own_keep a2 fun b hb=>far b (fun e=>r.gs (by rw [hb,e])),own_keep a3 fun b hb=>far b (fun e=>r.gq (by rw [hb,e])),a4.keep (far m r.gm.symm),r.fg,r.fm,r.fs,r.fq,fun b hb=>by simpa [World.setCell] using r.lt b hb⟩
  have hs:Step F F w ((w.setCell ⟨g,4,none⟩ (.bool true)).setCell ⟨g,5,none⟩ (.int .i64 k)):=(step_set r.fg).set (p:=⟨g,5,none⟩) r.fg _
  have HD:=Lib.hid hd
  have HS:=Lib.hid hs
  have hdec:decide (0≤k)=true:=by simpa using h0
  clear hd hs r ho hoa
  go_enter Tryz.func19,Tryz.ntmps19
  go_wp2
  go_end0
  exact ⟨rfl,HD.out,HS.out⟩
 ·have hd:IsDisk ((w.setCell ⟨g,4,none⟩ (.bool false)).setCell ⟨g,5,none⟩ (.int .i64 0)) F g (d.arm k):=by
   refine ⟨hoa,vs,vq,m,?_⟩
   have e:d.arm k = { d with fuse:=none }:=by simp [Dk.arm,h0]
   rw [e]
   obtain ⟨a1,a2,a3,a4,a5⟩:=r.head_set 4 (.bool false) r.safe
   have hb:=a1.set 5 (.int .i64 0)
   have eb:((diskCells vs vq m d.gone d.fuse.isSome (fuseOf d.fuse)).setIfInBounds 4 (.bool false)).setIfInBounds 5 (.int .i64 0)=diskCells vs vq m d.gone false (fuseOf none):=by
    simp [diskCells,fuseOf]
   rw [eb] at hb
   have far:∀ b,b≠g→((w.setCell ⟨g,4,none⟩ (.bool false)).setCell ⟨g,5,none⟩ (.int .i64 0)).heap[b]? = (w.setCell ⟨g,4,none⟩ (.bool false)).heap[b]?:=fun b hb=>heap_setCell_other _ ⟨g,5,none⟩ b _ hb
   exact ⟨hb,own_keep a2 fun b hb=>far b (fun e=>r.gs (by rw [hb,e])),own_keep a3 fun b hb=>far b (fun e=>r.gq (by rw [hb,e])),a4.keep (far m r.gm.symm),r.fg,r.fm,r.fs,r.fq,fun b hb=>by simpa [World.setCell] using r.lt b hb⟩
  have hs:Step F F w ((w.setCell ⟨g,4,none⟩ (.bool false)).setCell ⟨g,5,none⟩ (.int .i64 0)):=(step_set r.fg).set (p:=⟨g,5,none⟩) r.fg _
  have HD:=Lib.hid hd
  have HS:=Lib.hid hs
  have hdec:decide (0≤k)=false:=by simpa using h0
  have hmax:max k 0=0:=by omega
  clear hd hs r ho hoa
  go_enter Tryz.func19,Tryz.ntmps19
  go_wp2
  go_end0
  exact ⟨rfl,HD.out,HS.out⟩
set_option maxRecDepth 100000 in
theorem dead_any (h:IsDisk w F g d):Calls Tryz.prog 55 #[.pointer (some ⟨g,0,none⟩)] w fun e w'=>e=.returned (.bool d.gone)∧w=w':=by
 obtain ⟨_,vs,vq,m,r⟩:=h
 obtain ⟨_,_,_,c3,_⟩:=r.cells
 clear r
 go_enter Tryz.func55,Tryz.ntmps55
 go_wp2
 go_ret
 exact ⟨rfl,rfl⟩
theorem own_len {base size n:Nat} {e:TypeId} {v:Value} {xs:List Value} (h:w.ownsRow base e size v n xs):∃ a cap,v=.slice a n cap∧n≤maxLen:=by
 obtain ⟨_,⟨rfl,rfl⟩ | ⟨g,cap,cur,rfl,_,_,h1,h2,_⟩⟩:=h
 · exact ⟨none,0,rfl,Nat.zero_le _⟩
 · exact ⟨_,_,rfl,Nat.le_trans h1 h2⟩
set_option maxRecDepth 100000 in
theorem size_any (h:IsDisk w F g d):Calls Tryz.prog 35 #[.pointer (some ⟨g,0,none⟩)] w fun e w'=>e=.returned (.int .i64 d.safe.length)∧w=w':=by
 obtain ⟨_,vs,vq,m,r⟩:=h
 obtain ⟨a,cap,rfl,_⟩:=own_len r.safe
 obtain ⟨c0,_⟩:=r.cells
 clear r
 go_enter Tryz.func35,Tryz.ntmps35
 go_wp2
 go_ret
 exact ⟨rfl,rfl⟩
end
end Go.Proofs.YthkbcfhjmnpggaaGreat

namespace Go.Proofs.YthkbcfhjmnpggaaGreat
open Go.RowKit
theorem zero_write (w:World):(zeroValue 112).run Tryz.prog w=.ok (.agg #[.int .i64 0,.string ⟨#[]⟩]) w:=by kernel_rfl
theorem look_run {w:World} {m:Nat} {f:Int→Option Value} (h:IsMap w m f) (i:Int) :
 (Instr.lookup 86 (.map (some m)) (.int .i64 i) true).run Tryz.prog w=.ok (.tuple #[(f i).getD (.agg #[.int .i64 0,.string ⟨#[]⟩]),.bool (f i).isSome]) w :=
 h.look Tryz.underlying86 Tryz.underlying3 i (zero_write w)
section
variable {w:World} {F:Foot} {g:Nat} {d:Dk}
theorem at_size (ho:d.Ok) (i:Int) (hi:d.has i):(d.at_ i).size=128:=by
 unfold Dk.at_
 cases hl:lastOf d.waits i with
 | some s =>
   obtain ⟨x,hx,_,rfl⟩:=lastOf_mem hl
   exact (ho.wait x hx).2
 | none =>
   simp only [Option.getD_none]
   have h0:=hi.1
   have h1:=hi.2
   rw [List.getD_eq_getElem?_getD,List.getElem?_eq_getElem (by omega)]
   exact ho.sect _ (List.getElem_mem _)
set_option maxRecDepth 100000 in
set_option maxHeartbeats 1000000 in
theorem read_ok (h:IsDisk w F g d) (i:Int) (hr:d.reachE i=0) (s:ByteArray) (hs:d.at_ i=s) :
 Calls Tryz.prog 83 #[.pointer (some ⟨g,0,none⟩),.int .i64 i] w fun e w'=>e=.returned (.tuple #[.string s,.int .i64 0])∧Below w.heap.size w w':=by
 have hreach:=reach_any h i 0 hr
 obtain ⟨ho,vs,vq,m,r⟩:=h
 have hi:d.has i:=by
  unfold Dk.reachE at hr
  split at hr
  · cases hr
  ·split at hr
   · assumption
   · cases hr
 have hs128:=at_size ho i hi
 rw [hs] at hs128
 have hclone:=fun W=>cloneS_any s W (by omega)
 obtain ⟨b,cap,rfl,hc⟩:=own_head ho r.safe
 obtain ⟨c0,_,c2,_⟩:=r.cells
 obtain ⟨k,rfl⟩:=Int.eq_ofNat_of_zero_le hi.1
 have hk:(k:Int) < d.safe.length:=hi.2
 have cell:=r.safe.cellAt k (by omega)
 have hx:(strsV d.safe)[k]? = some (.string (d.safe.getD k zero128)):=by
  unfold strsV
  rw [List.getElem?_map,List.getElem?_eq_getElem (by omega),List.getD_eq_getElem?_getD,List.getElem?_eq_getElem (by omega)]
  rfl
 rw [hx] at cell
 have hlook:=look_run r.last (k:Int)
 unfold lastV at hlook
 unfold Dk.at_ at hs
 rw [Int.toNat_natCast] at hs
 have h0:(0:Int)≤k:=Int.natCast_nonneg _
 have HR:=Lib.hid hreach
 have HC:=Lib.hid hclone
 generalize d.safe.getD k zero128=x at *
 generalize d.safe.length=n at *
 cases hl:lastOf d.waits (k:Int) with
 | none =>
   rw [hl] at hlook hs
   simp only [Option.map_none,Option.getD_none,Option.isSome_none] at hlook
   obtain rfl:x=s:=hs
   clear hl r ho hreach hclone hi hr hx hs128
   go_enter Tryz.func83,Tryz.ntmps83
   go_wp2_with fail
   refine HR.out.mono ?_
   rintro e w1 ⟨rfl,rfl⟩
   go_wp2_with fail
   refine (HC.out _).mono ?_
   rintro e w1 ⟨rfl,hb⟩
   go_wp2
   go_ret2
   exact ⟨rfl,below2 ((Below.refl _ _).alloc (Nat.le_refl _) _) hb⟩
 | some y =>
   rw [hl] at hlook hs
   obtain rfl:y=s:=hs
   simp only [Option.map_some,Option.getD_some,Option.isSome_some,writeV] at hlook
   clear hl r ho hreach hclone hi hr hx hs128
   go_enter Tryz.func83,Tryz.ntmps83
   go_wp2_with fail
   refine HR.out.mono ?_
   rintro e w1 ⟨rfl,rfl⟩
   go_wp2_with fail
   refine (HC.out _).mono ?_
   rintro e w1 ⟨rfl,hb⟩
   go_wp2
   go_ret2
   exact ⟨rfl,below2 ((Below.refl _ _).alloc (Nat.le_refl _) _) hb⟩
set_option maxRecDepth 100000 in
set_option maxHeartbeats 1000000 in
theorem read_no (h:IsDisk w F g d) (i:Int) (n:Nat) (hr:d.reachE i=n) (hn:(n:Int)≠0) :
 Calls Tryz.prog 83 #[.pointer (some ⟨g,0,none⟩),.int .i64 i] w fun e w'=>e=.returned (.tuple #[.string ⟨#[]⟩,.int .i64 n])∧Below w.heap.size w w':=by
 have H:=Lib.hid (reach_any h i n hr)
 have hne:((n:Int) != 0)=true:=by simpa using hn
 clear h hr
 go_enter Tryz.func83,Tryz.ntmps83
 go_wp2_with fail
 refine H.out.mono ?_
 rintro e w1 ⟨rfl,rfl⟩
 go_wp2
 go_ret2
 exact ⟨rfl,Below.refl _ _⟩
theorem read_any (h:IsDisk w F g d) (i:Int) :
 Calls Tryz.prog 83 #[.pointer (some ⟨g,0,none⟩),.int .i64 i] w fun e w'=>e=.returned (.tuple #[.string (d.read i),.int .i64 (d.reachE i)])∧Below w.heap.size w w':=by
 by_cases hr:d.reachE i=0
 ·have e:d.read i=d.at_ i:=by unfold Dk.read; rw [if_pos hr]
  rw [e,hr]
  exact read_ok h i hr _ rfl
 ·have e:d.read i=⟨#[]⟩:=by unfold Dk.read; rw [if_neg hr]
  rw [e]
  exact read_no h i _ rfl (by omega)
end
end Go.Proofs.YthkbcfhjmnpggaaGreat

namespace Go.Proofs.YthkbcfhjmnpggaaGreat
open Go.RowKit
theorem info_write:(Tryz.prog.info? 112).map (fun i=>(i.zero,i.size,i.bytes))=some (some (.agg #[.int .i64 0,.string ⟨#[]⟩]),2,24):=by kernel_rfl
section
variable {w:World} {F:Foot} {g:Nat} {d:Dk}
theorem RawF.pushed {W w1:World} {f:Int→Option Value} {vs vq:Value} {m:Nat} (h:RawF W F g d f vs vq m) (x:Nat × ByteArray) {v':Value} (hown:w1.ownsRow 0 112 2 v' (d.waits.length+1) (waitsV d.waits++writeCells x))
 (hg:W.grownBy w1 vq.ownBlock) (hat:∀ b,v'.ownBlock=some b→vq.ownBlock=some b∨W.heap.size≤b) :
 RawF (w1.setCell ⟨g,1,none⟩ v') (fun b=>F b∨(W.heap.size≤b∧b < w1.heap.size)) g { d with waits:=d.waits++[x] } f vs v' m∧Step F (fun b=>F b∨(W.heap.size≤b∧b < w1.heap.size)) W (w1.setCell ⟨g,1,none⟩ v'):=by
 have far:∀ b,b < W.heap.size→vq.ownBlock≠some b→w1.heap[b]? = W.heap[b]?:=fun b hb hne=>hg.block b hb (Ne.symm hne)
 have lt:=h.lt
 have hs:Step F (fun b=>F b∨(W.heap.size≤b∧b < w1.heap.size)) W w1:=((Step.refl F W).grown hg h.fq).widen
 have hh:Blk w1 g 89 (diskCells vs vq m d.gone d.fuse.isSome (fuseOf d.fuse)):=(far g (lt g h.fg) h.gq).trans h.head
 have hv:v'.ownBlock≠some g:=own_blk hown hh (by decide)
 have set:∀ b,b≠g→(w1.setCell ⟨g,1,none⟩ v').heap[b]? = w1.heap[b]?:=fun b hb=>heap_setCell_other w1 ⟨g,1,none⟩ b _ hb
 refine ⟨⟨hh.set 1 v',?_,?_,?_,.inl h.fg,.inl h.fm,fun b hb=>.inl (h.fs b hb),fun b hb=>?_,fun b hb=>?_⟩,hs.set (p:=⟨g,1,none⟩) (.inl h.fg) _⟩
 · exact own_keep h.safe fun b hb=>(set b (fun e=>h.gs (by rw [hb,e]))).trans (far b (lt b (h.fs b hb)) (h.sq hb))
 ·have:=own_keep (w':=w1.setCell ⟨g,1,none⟩ v') hown fun b hb=>set b (fun e=>hv (by rw [hb,e]))
  rw [waitsV_snoc,List.length_append]
  exact this
 · exact h.last.keep ((set m h.gm.symm).trans (far m (lt m h.fm) h.qm))
 ·rcases hat b hb with hb' | hb'
  · exact .inl (h.fq b hb')
  · exact .inr ⟨hb',(hown.lt b hb).2⟩
 ·show b < (w1.setCell _ _).heap.size
  rcases hb with hb | hb
  · have:=lt b hb; have:=hg.size; simp [World.setCell]; omega
  · simpa [World.setCell] using hb.2
theorem RawF.mapped {f f':Int→Option Value} {vs vq:Value} {m:Nat} (h:RawF w F g d f vs vq m) (o:Obj) (hm:IsMap { w with heap:=w.heap.setIfInBounds m o } m f') :
 RawF { w with heap:=w.heap.setIfInBounds m o } F g d f' vs vq m:=by
 have far:∀ b,b≠m→(w.heap.setIfInBounds m o)[b]? = w.heap[b]?:=fun b hb=>by rw [Array.getElem?_setIfInBounds,if_neg (Ne.symm hb)]
 exact ⟨(far g h.gm).trans h.head,own_keep h.safe fun b hb=>far b (fun e=>h.sm (by rw [hb,e])),own_keep h.wait fun b hb=>far b (fun e=>h.qm (by rw [hb,e])),hm,h.fg,h.fm,h.fs,h.fq,fun b hb=>by simpa using h.lt b hb⟩
theorem put_run {m:Nat} {f:Int→Option Value} (h:IsMap w m f) (i:Int) (v:Value) :
 ∃ o,(Instr.mapUpdate 86 (.map (some m)) (.int .i64 i) v).run Tryz.prog w=.ok () { w with heap:=w.heap.setIfInBounds m o }∧IsMap { w with heap:=w.heap.setIfInBounds m o } m fun c=>if c=i then some v else f c :=
 h.put Tryz.underlying86 Tryz.underlying3 i v
theorem lastV_snoc (l:List (Nat × ByteArray)) (k:Nat) (s:ByteArray) (c:Int):(if c=(k:Int) then some (writeV k s) else lastV l c)=lastV (l++[(k,s)]) c:=by
 unfold lastV
 rw [lastOf_snoc]
 by_cases h:c=(k:Int)
 · subst h; simp
 · rw [if_neg h,if_neg (Ne.symm h)]
theorem IsDisk.mk' {w:World} {F:Foot} {g:Nat} {d D:Dk} {k:Nat} {s:ByteArray} {vs vq:Value} {m:Nat} (ho:({ D with waits:=d.waits++[(k,s)] }:Dk).Ok) (hw:D.waits=d.waits)
 (h:RawF w F g { D with waits:=D.waits++[(k,s)] } (fun c=>if c=(k:Int) then some (writeV k s) else lastV D.waits c) vs vq m):IsDisk w F g { D with waits:=d.waits++[(k,s)] }:=by
 rw [← hw]
 rw [← hw] at ho
 exact ⟨ho,vs,vq,m,h.head,h.safe,h.wait,h.last.congr (lastV_snoc _ _ _),h.fg,h.fm,h.fs,h.fq,h.lt⟩
set_option maxRecDepth 100000 in
set_option maxHeartbeats 4000000 in
theorem write_ok (h:IsDisk w F g d) (k:Nat) (s:ByteArray) (hi:d.has k) (hs:s.size=128) (hbear:d.bears=true) (hl:d.waits.length < 16777216) :
 Calls Tryz.prog 75 #[.pointer (some ⟨g,0,none⟩),.int .i64 k,.string s] w fun e w'=>e=.returned (.int .i64 0)∧∃ F',IsDisk w' F' g { d.burn with waits:=d.waits++[(k,s)] }∧Step F F' w w':=by
 obtain ⟨i0,hi0,hz0,hz1,hz2⟩:=info_parts info_write
 have hok:({ d.burn with waits:=d.waits++[(k,s)] }:Dk).Ok:=by
  have:=h.1.write k s
  unfold Dk.write at this
  rw [if_pos hi,if_pos hs,if_pos hbear] at this
  simpa using this
 have H1:=Lib.hid (has_any h k true (by simp [hi]))
 have H2:=Lib.hid (bears_any h true hbear.symm)
 have H3:=Lib.hid (fun W=>cloneS_any s W (by omega))
 have HO:=Lib.hid hok
 have hne:((s.size:Int) != 128)=false:=by simp [hs]
 have hbw:=Dk.burn_waits d
 rw [← hbw] at hl
 have HW:=Lib.hid hbw
 generalize hB:d.burn=D at *
 have HB:=Lib.hid hB
 clear hok hi hs hbear hbw hB
 go_enter Tryz.func75,Tryz.ntmps75
 go_wp2_with fail
 refine H1.out.mono ?_
 rintro e w1 ⟨rfl,rfl⟩
 go_wp2_with fail
 refine H2.out.mono ?_
 rintro e w1 ⟨rfl,hd1,hs1⟩
 go_wp2_with fail
 refine (H3.out _).mono ?_
 rintro e w2 ⟨rfl,hb2⟩
 go_wp2_with fail
 obtain ⟨ho1,vs,vq,m,r1⟩:=hd1
 have r2:=r1.below hb2
 have xq:vq.ownBlock≠some w2.heap.size:=fun e=>by have:=r2.lt _ (r2.fq _ e); omega
 have rW:=r2.below ((Below.refl _ _).alloc (Nat.le_refl _) (.cells #[.int .i64 (k:Int),.string s] 112))
 have hbW:Below w1.heap.size w1 (w2.alloc (.cells #[.int .i64 (k:Int),.string s] 112)):=hb2.alloc hb2.size _
 have b0:Blk (w2.alloc (.cells #[.int .i64 (k:Int),.string s] 112)) w2.heap.size 112 #[.int .i64 (k:Int),.string s]:=Blk.new _ _ _
 change Code.wp _ _ _ _ (w2.alloc (.cells #[.int .i64 (k:Int),.string s] 112))
 have hx:(w2.alloc (.cells #[.int .i64 (k:Int),.string s] 112)).heap.size=w2.heap.size+1:=by simp
 generalize w2.heap.size=x at *
 generalize hWW:w2.alloc (.cells #[.int .i64 (k:Int),.string s] 112)=W at *
 clear hWW hb2 r2
 have b00:=b0.cell 0
 have b01:=b0.cell 1
 obtain ⟨_,c1,c2,_⟩:=rW.cells
 have f1:=rW.frozen 1
 have lg:=rW.lt g rW.fg
 have lx:x < W.heap.size:=by omega
 have nq:=rW.gq
 have hxh:=Lib.hid hx
 clear hx
 have hbk:W.frozen? ⟨g,1,none⟩=false:=f1
 go_region_law
  ((refine step_append_lies _ (by rfl) _ _ _ (by rfl) 0 112 i0 _ 2 24 Tryz.underlying87 hi0 hz0 hz1 hz2 rfl (by omega) vq _ _ (by rfl) ((rW.wait.alloc _).drew)
     ⟨W.heap.size,0,none⟩ 1 1 [.int .i64 k,.string s] (by rfl) (by rfl) (World.news_of_block (cs:=#[.int .i64 k,.string s]) (t:=112) (fr:=(0,0)) (heap_alloc_new W _)) (by simp [Value.oneCell'])
     (by omega) (by simp only [maxLen]; omega) (by omega) (by simp) (W.heap.size+1) (by simp) ?_; intro gg cap w3 hown hgrow hat hlt; have lg3:g < (W.drew.alloc (.cells #[.int .i64 (k:Int),.string s] 112)).heap.size:=Nat.lt_of_lt_of_le lg (by simp); have f3:w3.frozen? ⟨g,1,none⟩=false:=(hgrow.frozen_far ⟨g,1,none⟩ lg3 (Ne.symm nq)).trans ((World.frozen?_alloc_old W.drew _ _ (Nat.ne_of_lt lg)).trans f1); have c3:w3.cell? ⟨g,1,none⟩=some vq:=(hgrow.cell_far ⟨g,1,none⟩ lg3 (Ne.symm nq)).trans ((World.cell?_alloc_lt W.drew _ _ lg).trans c1)))
 all_goals
  obtain ⟨r4,s4⟩:=((rW.below ((Below.refl _ _).alloc (Nat.le_refl _) (.cells #[.int .i64 (k:Int),.string s] 112))).drew).pushed (k,s) hown hgrow (fun b hb=>by
   simp only [Value.ownBlock,Option.some.injEq] at hb
   subst hb
   rcases hat with hat | hat
   · exact .inl hat
   · right; show (W.alloc _).heap.size≤gg; simp; omega)
  have c4:=r4.cells.2.2.1
  have bx:Blk (w3.setCell ⟨g,1,none⟩ (.slice (some ⟨gg,0,none⟩) (D.waits.length+1) cap)) x 112 #[.int .i64 (k:Int),.string s]:=by
   refine ((heap_setCell_other w3 ⟨g,1,none⟩ x _ ?_).trans (hgrow.block x ?_ (Ne.symm xq))).trans ((b0.alloc _).drew)
   ·rintro rfl
    have:=rW.head
    unfold Blk at this b0
    rw [b0] at this
    simp [diskCells] at this
   · exact Nat.lt_of_lt_of_le lx (by simp)
  have b40:=bx.cell 0
  have b41:=bx.cell 1
  obtain ⟨o,hrun,hm⟩:=put_run r4.last.drew (k:Int) (writeV k s)
  unfold writeV at hrun
  have r5:=(r4.drew).mapped o hm
  have s5:=(s4.drew).setObj r4.fm o
  have hfin:=IsDisk.mk' HO.out HW.out r5
  have sfin:=(hs1.trans ((Step.refl F w1).more hbW)).trans (((Step.refl F W).alloc _).drew.trans s5)
  have R5:=Lib.hid hfin
  have S5:=Lib.hid sfin
  clear hfin sfin r4 r5 s4 s5 hm bx hgrow hat hlt lg3 f3 c3 hown b0 b00 b01 c1 f1 hbk
  generalize w3.setCell ⟨g,1,none⟩ (.slice (some ⟨gg,0,none⟩) (D.waits.length+1) cap)=w4 at *
  go_wp2_with fail
  go_still_tail 6,(by kernel_rfl)
  go_wp2
  go_ret
  exact ⟨rfl,_,R5.out,S5.out⟩
set_option maxRecDepth 100000 in
set_option maxHeartbeats 1000000 in
theorem write_range (h:IsDisk w F g d) (i:Int) (s:ByteArray) (hi:¬ d.has i) :
 Calls Tryz.prog 75 #[.pointer (some ⟨g,0,none⟩),.int .i64 i,.string s] w fun e w'=>e=.returned (.int .i64 2)∧w=w':=by
 have H1:=Lib.hid (has_any h i false (by simp [hi]))
 clear h hi
 go_enter Tryz.func75,Tryz.ntmps75
 go_wp2_with fail
 refine H1.out.mono ?_
 rintro e w1 ⟨rfl,rfl⟩
 go_wp2
 go_ret
 exact ⟨rfl,rfl⟩
set_option maxRecDepth 100000 in
set_option maxHeartbeats 1000000 in
theorem write_size (h:IsDisk w F g d) (i:Int) (s:ByteArray) (hi:d.has i) (hs:s.size≠128) :
 Calls Tryz.prog 75 #[.pointer (some ⟨g,0,none⟩),.int .i64 i,.string s] w fun e w'=>e=.returned (.int .i64 1)∧w=w':=by
 have H1:=Lib.hid (has_any h i true (by simp [hi]))
 have hne:((s.size:Int) != 128)=true:=by simp; omega
 clear h hi hs
 go_enter Tryz.func75,Tryz.ntmps75
 go_wp2_with fail
 refine H1.out.mono ?_
 rintro e w1 ⟨rfl,rfl⟩
 go_wp2
 go_ret
 exact ⟨rfl,rfl⟩
set_option maxRecDepth 100000 in
set_option maxHeartbeats 1000000 in
theorem write_dead (h:IsDisk w F g d) (i:Int) (s:ByteArray) (hi:d.has i) (hs:s.size=128) (hb:d.bears=false) :
 Calls Tryz.prog 75 #[.pointer (some ⟨g,0,none⟩),.int .i64 i,.string s] w fun e w'=>e=.returned (.int .i64 4)∧IsDisk w' F g d.burn∧Step F F w w':=by
 have H1:=Lib.hid (has_any h i true (by simp [hi]))
 have H2:=Lib.hid (bears_any h false hb.symm)
 have hne:((s.size:Int) != 128)=false:=by simp [hs]
 clear h hi hs hb
 go_enter Tryz.func75,Tryz.ntmps75
 go_wp2_with fail
 refine H1.out.mono ?_
 rintro e w1 ⟨rfl,rfl⟩
 go_wp2_with fail
 refine H2.out.mono ?_
 rintro e w1 ⟨rfl,hd,hs⟩
 go_wp2
 go_ret
 exact ⟨rfl,hd,hs⟩
theorem write_any (h:IsDisk w F g d) (i:Int) (s:ByteArray) (hl:d.waits.length < 16777216) :
 Calls Tryz.prog 75 #[.pointer (some ⟨g,0,none⟩),.int .i64 i,.string s] w fun e w'=>e=.returned (.int .i64 (d.writeE i s))∧∃ F',IsDisk w' F' g (d.write i s)∧Step F F' w w':=by
 unfold Dk.writeE Dk.write
 by_cases hi:d.has i
 ·rw [if_pos hi,if_pos hi]
  by_cases hs:s.size=128
  ·rw [if_pos hs,if_pos hs]
   cases hb:d.bears with
   | true =>
     obtain ⟨k,rfl⟩:=Int.eq_ofNat_of_zero_le hi.1
     exact write_ok h k s hi hs hb hl
   | false=>exact (write_dead h i s hi hs hb).mono fun e w' k=>⟨k.1,F,k.2⟩
  ·rw [if_neg hs,if_neg hs]
   exact (write_size h i s hi hs).mono fun e w' ⟨k1,k2⟩=>⟨k1,F,k2 ▸ h,k2 ▸ Step.refl F w⟩
 ·rw [if_neg hi,if_neg hi]
  exact (write_range h i s hi).mono fun e w' ⟨k1,k2⟩=>⟨k1,F,k2 ▸ h,k2 ▸ Step.refl F w⟩
end
end Go.Proofs.YthkbcfhjmnpggaaGreat

namespace Go.Proofs.YthkbcfhjmnpggaaGreat
open Go.RowKit
def Dk.part (d:Dk) (f:Nat→Nat) (k:Nat):Dk:={ d with safe:=settleTo f d.waits d.safe k }
theorem Dk.Ok.part {d:Dk} (h:d.Ok) (f:Nat→Nat) (k:Nat):(d.part f k).Ok :=
 ⟨by unfold Dk.part; rw [settleTo_len]; exact h.pos,by unfold Dk.part; rw [settleTo_len]; exact h.le,Dk.settleTo_sect h.sect (fun x hx=>(h.wait x hx).2) _,fun x hx=>by
   have:=h.wait x hx
   unfold Dk.part
   rw [settleTo_len]
   exact this,h.fuse⟩
theorem strsV_set (l:List ByteArray) (k:Nat) (s:ByteArray):(strsV l).set k (.string s)=strsV (l.set k s):=by simp [strsV,List.map_set]
section
variable {w:World} {F:Foot} {g:Nat} {d:Dk}
theorem RawF.stored {f:Int→Option Value} {b cap:Nat} {vq:Value} {m n:Nat} (h:RawF w F g d f (.slice (some ⟨b,0,none⟩) n cap) vq m) (hn:n=d.safe.length) (k:Nat) (s:ByteArray) :
 RawF (w.setCell ⟨b,k,none⟩ (.string s)) F g { d with safe:=d.safe.set k s } f (.slice (some ⟨b,0,none⟩) n cap) vq m∧Step F F w (w.setCell ⟨b,k,none⟩ (.string s)):=by
 subst hn
 have set:∀ c,c≠b→(w.setCell ⟨b,k,none⟩ (.string s)).heap[c]? = w.heap[c]?:=fun c hc=>heap_setCell_other w ⟨b,k,none⟩ c _ hc
 have hb:(Value.slice (some ⟨b,0,none⟩) d.safe.length cap).ownBlock=some b:=rfl
 have so:=(h.safe.stored k (.string s)).1
 rw [strsV_set] at so
 refine ⟨⟨(set g fun e=>h.gs (by rw [hb,e])).trans h.head,?_,own_keep h.wait fun c hc=>set c (fun e=>h.sq hb (by rw [hc,e])),h.last.keep (set m fun e=>h.sm (by rw [hb,e])),h.fg,h.fm,h.fs,h.fq,fun c hc=>by simpa [World.setCell] using h.lt c hc⟩,(Step.refl F w).set (p:=⟨b,k,none⟩) (h.fs b hb) _⟩
 have e:(d.safe.set k s).length=d.safe.length:=List.length_set ..
 show World.ownsRow _ _ _ _ _ (d.safe.set k s).length _
 rw [e]
 exact so
set_option maxRecDepth 100000 in
set_option maxHeartbeats 4000000 in
theorem sync_ok (h:IsDisk w F g d) (hbear:d.bears=true) :
 Calls Tryz.prog 45 #[.pointer (some ⟨g,0,none⟩)] w fun e w'=>e=.returned (.int .i64 0)∧IsDisk w' F g d.sync∧Step F F w w':=by
 have H2:=Lib.hid (bears_any h true hbear.symm)
 have hsync:d.sync = { d.burn.part (fun _=>1) d.burn.waits.length with waits:=[] }:=by
  unfold Dk.sync Dk.part Dk.settled
  rw [if_pos hbear,Dk.burn_waits,Dk.burn_safe]
 rw [hsync]
 clear hsync hbear h
 generalize d.burn=D at *
 go_enter Tryz.func45,Tryz.ntmps45
 go_wp2_with fail
 refine H2.out.mono ?_
 rintro e w1 ⟨rfl,⟨ho,vs,vq,m,r⟩,s1⟩
 obtain ⟨b,cap,rfl,hcap⟩:=own_head ho r.safe
 have hn:=ho.le
 rcases own_any r.wait with ⟨rfl,h0,_⟩ | ⟨q,capq,rfl,hq,hqm⟩
 ·obtain ⟨_,c1,_⟩:=r.cells
  have hd:IsDisk w1 F g (D.part (fun _=>1) D.waits.length):=by rw [h0]; exact ⟨ho,_,_,_,r⟩
  have HD:=Lib.hid hd
  clear r ho h0 hd
  go_wp2
  refine wp_loop_rounds 1 ?_
  rw [rounds_succ]
  go_wp2_with fail
  refine (dropWaits_any HD.out).mono ?_
  rintro e w2 ⟨rfl,hd2,s2⟩
  go_wp2
  go_ret
  exact ⟨rfl,hd2,s1.trans s2⟩
 ·obtain ⟨_,c1,_⟩:=r.cells
  have hl:D.waits.length≤9223372036854775807:=by unfold maxLen at hqm; omega
  have hin:∀ k (hk:k < D.waits.length),D.waits[k].1 < D.safe.length:=fun k hk=>(ho.wait _ (List.getElem_mem hk)).1
  have HIN:=Lib.hid hin
  have HO:=Lib.hid ho
  clear hin ho
  have HR:Hid (RawF w1 F g (D.part (fun _=>1) 0) (lastV D.waits) (.slice (some ⟨b,0,none⟩) D.safe.length cap) (.slice (some ⟨q,0,none⟩) D.waits.length capq) m):=r
  clear r
  have hlen:∀ k,(D.part (fun _=>1) k).safe.length=D.safe.length:=fun k=>settleTo_len _ _ _ _
  have HL:=Lib.hid hlen
  clear hlen
  go_wp2
  go_loopw [17] (fun i wr=>∃ k:Nat,k≤D.waits.length∧i=.int .i64 k∧RawF wr F g (D.part (fun _=>1) k) (lastV D.waits) (.slice (some ⟨b,0,none⟩) D.safe.length cap) (.slice (some ⟨q,0,none⟩) D.waits.length capq) m∧Step F F w1 wr) (fun i _=>D.waits.length - (intOf i).toNat)
  case atStart=>exact ⟨0,Nat.zero_le _,rfl,HR.out,Step.refl _ _⟩
  case round =>
   obtain ⟨k,hk,rfl,hr,hst⟩:=hrel
   clear c1
   by_cases hlt:k < D.waits.length
   ·have hkl:=hlt
    obtain ⟨e0,e1⟩:=waitsV_at D.waits k hkl
    have hw:=hr.wait
    rw [show (D.part (fun _=>1) k).waits=D.waits from rfl] at hw
    have q0:=(hw.cellAt (k*2) (by omega)).trans e0
    have q1:=(hw.cellAt (k*2+1) (by omega)).trans e1
    obtain ⟨c0,_⟩:=hr.cells
    have hi:=HIN.out k hkl
    have hx0:(0:Int)≤(D.waits[k].1:Int):=Int.natCast_nonneg _
    have hx1:(D.waits[k].1:Int) < (D.safe.length:Int):=by omega
    generalize hj:D.waits[k].1=j at *
    generalize hs:D.waits[k].2=s at *
    have HJ:=Lib.hid hj
    have HS:=Lib.hid hs
    clear hj hs hw e0 e1
    go_wp2_with fail
    have rW:=hr.below ((Below.refl _ _).alloc (Nat.le_refl _) (.cells #[.int .i64 (j:Int),.string s] 112))
    have sW:=hst.alloc (.cells #[.int .i64 (j:Int),.string s] 112)
    have bx:Blk (wr.alloc (.cells #[.int .i64 (j:Int),.string s] 112)) wr.heap.size 112 #[.int .i64 (j:Int),.string s]:=Blk.new _ _ _
    generalize wr.heap.size=x at *
    generalize wr.alloc (.cells #[.int .i64 (j:Int),.string s] 112)=W at *
    have b0:=bx.cell 0
    have b1:=bx.cell 1
    obtain ⟨d0,_⟩:=rW.cells
    have hl1:(D.part (fun _=>1) k).safe.length=D.safe.length:=HL.out k
    have hsafe:=rW.safe
    rw [hl1] at hsafe
    have e1:=hsafe.cellAt j (by omega)
    obtain ⟨u,hu⟩:∃ u,(strsV (D.part (fun _=>1) k).safe)[j]? = some u:=⟨_,List.getElem?_eq_getElem (by rw [strsV_len,hl1]; exact hi)⟩
    rw [hu] at e1
    have f1:=hsafe.frozenAt j
    obtain ⟨r2,s2⟩:=rW.drew.stored hl1.symm j s
    have hpart:{ D.part (fun _=>1) k with safe:=(D.part (fun _=>1) k).safe.set j s } = D.part (fun _=>1) (k+1):=by
     unfold Dk.part
     rw [settleTo_succ _ _ _ _ hlt]
     simp [settleOne,HJ.out,HS.out]
    have R2:Hid (RawF (W.drew.setCell ⟨b,j,none⟩ (.string s)) F g (D.part (fun _=>1) (k+1)) (lastV D.waits) (.slice (some ⟨b,0,none⟩) D.safe.length cap) (.slice (some ⟨q,0,none⟩) D.waits.length capq) m):=by rw [← hpart]; exact r2
    have S2:=Lib.hid (sW.drew.trans s2)
    clear r2 s2 hpart hsafe hu hl1 hr rW sW bx c0 q0 q1
    go_still_tail 9,(by kernel_rfl)
    go_wp2
    go_roundw
    case rel=>exact ⟨k+1,by omega,by go_num,R2.out,S2.out⟩
    case measure=>simp [intOf]; omega
   ·obtain rfl:k=D.waits.length:=by omega
    go_wp2_with fail
    refine (dropWaits_any (⟨HO.out.part _ _,_,_,_,hr⟩:IsDisk wr F g (D.part (fun _=>1) D.waits.length))).mono ?_
    rintro e w2 ⟨rfl,hd2,s2⟩
    go_wp2
    go_ret
    exact ⟨rfl,hd2,(s1.trans hst).trans s2⟩
set_option maxRecDepth 100000 in
set_option maxHeartbeats 1000000 in
theorem sync_dead (h:IsDisk w F g d) (hb:d.bears=false) :
 Calls Tryz.prog 45 #[.pointer (some ⟨g,0,none⟩)] w fun e w'=>e=.returned (.int .i64 4)∧IsDisk w' F g d.burn∧Step F F w w':=by
 have H2:=Lib.hid (bears_any h false hb.symm)
 clear h hb
 go_enter Tryz.func45,Tryz.ntmps45
 go_wp2_with fail
 refine H2.out.mono ?_
 rintro e w1 ⟨rfl,hd,hs⟩
 go_wp2
 go_ret
 exact ⟨rfl,hd,hs⟩
theorem sync_any (h:IsDisk w F g d) :
 Calls Tryz.prog 45 #[.pointer (some ⟨g,0,none⟩)] w fun e w'=>e=.returned (.int .i64 d.syncE)∧IsDisk w' F g d.sync∧Step F F w w':=by
 unfold Dk.syncE
 cases hb:d.bears with
 | true=>exact sync_ok h hb
 | false =>
   have e:d.sync=d.burn:=by unfold Dk.sync; rw [hb]; rfl
   rw [e]
   exact sync_dead h hb
end
end Go.Proofs.YthkbcfhjmnpggaaGreat

namespace Go.Proofs.YthkbcfhjmnpggaaGreat
open Go.RowKit
def Reads (w:World) (v:Value) (vs:List Value):Prop :=
 ∃ (a:Option Addr) (cap:Nat),v=.slice a vs.length cap∧vs.length≤cap∧∀ j x,vs[j]? = some x→∃ b off,a=some ⟨b,off,none⟩∧w.cell? ⟨b,off+j,none⟩=some x
theorem Reads.cases {w:World} {v:Value} {vs:List Value} (h:Reads w v vs) :
 (vs = []∧∃ a cap,v=.slice a 0 cap)∨∃ b off cap,v=.slice (some ⟨b,off,none⟩) vs.length cap∧0 < vs.length∧vs.length≤cap∧b < w.heap.size∧∀ j x,vs[j]? = some x→w.cell? ⟨b,off+j,none⟩=some x:=by
 obtain ⟨a,cap,rfl,hc,hx⟩:=h
 cases vs with
 | nil=>exact .inl ⟨rfl,a,cap,rfl⟩
 | cons y ys =>
   obtain ⟨b,off,rfl,h0⟩:=hx 0 y rfl
   refine .inr ⟨b,off,cap,rfl,by simp,hc,World.block_lt_of_cell? w ⟨b,off+0,none⟩ h0,fun j x hj=>?_⟩
   obtain ⟨b',off',e,h⟩:=hx j x hj
   simp only [Option.some.injEq,Addr.mk.injEq,and_true] at e
   obtain ⟨rfl,rfl⟩:=e
   exact h
theorem Reads.keep {w w':World} {v:Value} {vs:List Value} (h:Reads w v vs) (hb:Below w.heap.size w w'):Reads w' v vs:=by
 obtain ⟨a,cap,rfl,hc,hx⟩:=h
 refine ⟨a,cap,rfl,hc,fun j x hj=>?_⟩
 obtain ⟨b,off,e,h⟩:=hx j x hj
 exact ⟨b,off,e,(hb.cell (p:=⟨b,off+j,none⟩) (World.block_lt_of_cell? w ⟨b,off+j,none⟩ h)).trans h⟩
theorem Reads.empty (w:World) (a:Option Addr) (cap:Nat):Reads w (.slice a 0 cap) []:=⟨a,cap,rfl,Nat.zero_le _,fun j x hj=>by simp at hj⟩
end Go.Proofs.YthkbcfhjmnpggaaGreat
