/- Texts that belong together, joined: OpenL, OpenRec, OpenRecs, WalN, TaG, Full, RefA. -/
import Derived.Test.YthkbcfhjmnpggaaGreatK00
import Derived.ProofKit
import Derived.OpenShut
import Derived.Deep.Fields
import Derived.Deep.Slices
import Derived.Test.YthkbcfhjmnpggaaGreatK01
import Derived.Lib.SmallJoins
import Derived.Test.YthkbcfhjmnpggaaGreatK18
import Derived.Deep.DeepCutAuto
import Derived.Test.YthkbcfhjmnpggaaGreatK20
namespace Go.Proofs.YthkbcfhjmnpggaaGreat
open Go.ChangeShapes Go.WideShapes Go.RowKit
def ListOf {α:Type} (c:Nat) (P:World→List Value→α→Prop) (w:World) (v:Value) (l:List α):Prop :=
 ∃ (a:Option Addr) (cap:Nat),v=.slice a l.length cap∧l.length≤cap∧cap≤maxLen ∧
  ∀ j x,l[j]? = some x→∃ b off cs,a=some ⟨b,off,none⟩∧b < w.heap.size∧P w cs x∧∀ i u,cs[i]? = some u→w.cell? ⟨b,off+j*c+i,none⟩=some u
theorem ListOf.keep {α:Type} {c:Nat} {P:World→List Value→α→Prop} {w w':World} {v:Value} {l:List α} (h:ListOf c P w v l) (hP:∀ cs x,P w cs x→P w' cs x) (hb:Below w.heap.size w w'):ListOf c P w' v l:=by
 obtain ⟨a,cap,e,h1,h2,h3⟩:=h
 refine ⟨a,cap,e,h1,h2,fun j x hj=>?_⟩
 obtain ⟨b,off,cs,ea,hlt,hp,hc⟩:=h3 j x hj
 exact ⟨b,off,cs,ea,Nat.lt_of_lt_of_le hlt hb.size,hP _ _ hp,fun i u hu=>(hb.cell (p:=⟨b,off+j*c+i,none⟩) hlt).trans (hc i u hu)⟩
theorem ListOf.nil {α:Type} {c:Nat} {P:World→List Value→α→Prop} (w:World) (a:Option Addr) (cap:Nat) (h:cap≤maxLen):ListOf c P w (.slice a 0 cap) []:=⟨a,cap,rfl,Nat.zero_le _,h,fun j x hj=>by simp at hj⟩
theorem ListOf.cases {α:Type} {c:Nat} {P:World→List Value→α→Prop} {w:World} {v:Value} {l:List α} (h:ListOf c P w v l) :
 (l = []∧∃ a cap,v=.slice a 0 cap)∨∃ b off cap,v=.slice (some ⟨b,off,none⟩) l.length cap∧0 < l.length∧l.length≤cap∧cap≤maxLen∧b < w.heap.size ∧
   ∀ j (hj:j < l.length),∃ cs,P w cs l[j]∧∀ i u,cs[i]? = some u→w.cell? ⟨b,off+j*c+i,none⟩=some u:=by
 obtain ⟨a,cap,rfl,h1,h2,h3⟩:=h
 cases l with
 | nil=>exact .inl ⟨rfl,a,cap,rfl⟩
 | cons x l =>
   obtain ⟨b,off,_,rfl,hlt,_⟩:=h3 0 x rfl
   refine .inr ⟨b,off,cap,rfl,by simp,h1,h2,hlt,fun j hj=>?_⟩
   obtain ⟨b',off',cs,e,_,hp,hc⟩:=h3 j _ (List.getElem?_eq_getElem hj)
   simp only [Option.some.injEq,Addr.mk.injEq,and_true] at e
   obtain ⟨rfl,rfl⟩:=e
   exact ⟨cs,hp,hc⟩
theorem open_list {H:Type} {enc:TypeId × Value→H} {P:Program} {W:World} {b0:Nat} {r:Reach} {t e:TypeId} {v:Value} {d:DataW H} {p:List MemPlace} (ht:P.underlying t=some (.slice e)) (c:Nat) (hc0:0 < c) (hc:P.cellsOf e=c)
 (hval:Value.okWide P W r b0 t v) (h:DataW.Trod enc P W 0 (fun _=>true) true t v d p) {α:Type} [Inhabited α] (Q:World→List Value→α→Prop)
 (each:∀ k cs y,cs.length=c→DataW.trod enc P W 0 (fun _=>true) true k e cs=some y→∃ x,Q W cs x):∃ l:List α,ListOf c Q W v l:=by
 obtain ⟨a0,len,cap,rfl⟩:=okWide_slice ht hval
 obtain ⟨fuel,hf⟩:=h
 rcases Deep.open_slice ht hf with ⟨hcs,_⟩ | ⟨a,len',cap',m,n,D,Pl,hcs,_,hl,hm,hmm,_,hx⟩
 ·simp [Value.cells] at hcs
  obtain ⟨rfl,rfl,rfl⟩:=hcs
  exact ⟨[],ListOf.nil W _ _ (Nat.zero_le _)⟩
 ·simp [Value.cells] at hcs
  obtain ⟨rfl,rfl,rfl⟩:=hcs
  simp only [if_true] at hmm
  subst hmm
  have one:∀ j,j < m→∃ x:α,∃ b off cs,a=⟨b,off,none⟩∧b < W.heap.size∧Q W cs x∧∀ i u,cs[i]? = some u→W.cell? ⟨b,off+j*c+i,none⟩=some u:=fun j hj=>by
   obtain ⟨cs,hcc,htr⟩:=hx j hj
   rw [hc] at hcc
   obtain ⟨_,hcl,hat⟩:=World.cells?_some hcc
   obtain ⟨x,hx'⟩:=each _ cs _ hcl htr
   obtain ⟨blk,off,spot⟩:=a
   obtain ⟨cs0,hcc0,_⟩:=hx 0 (by omega)
   rw [hc] at hcc0
   obtain ⟨_,hcl0,hat0⟩:=World.cells?_some hcc0
   have h0:=(hat0 0 hc0).trans (List.getElem?_eq_getElem (by omega))
   have hspot:spot=none:=by simpa [Addr.add] using World.cell?_spot h0
   subst hspot
   have hlt:=World.block_lt_of_cell? W _ h0
   have hb:((⟨blk,off,none⟩:Addr).add (0*c)).block=blk:=by simp [Addr.add]
   simp only [add_plain] at hat hlt
   exact ⟨x,blk,off,cs,rfl,hlt,hx',fun i u hu=>by
    have hi:i < c:=by rw [← hcl]; exact (List.getElem?_eq_some_iff.1 hu).1
    rw [hat i hi,hu]⟩
  obtain ⟨f,hfp⟩:=Deep.choose_lt (n:=len) (p:=fun j (x:α)=>∃ b off cs,a=⟨b,off,none⟩∧b < W.heap.size∧Q W cs x∧∀ i u,cs[i]? = some u→W.cell? ⟨b,off+j*c+i,none⟩=some u) (fun j hj=>one j (by omega))
  refine ⟨(List.range len).map f,some a,m,by simp,by simpa using hl,hm,fun j x hj=>?_⟩
  rw [List.getElem?_map] at hj
  by_cases g:j < len
  ·rw [List.getElem?_range g] at hj
   simp only [Option.map_some,Option.some.injEq] at hj
   subst hj
   obtain ⟨b,off,cs,e,h1,h2,h3⟩:=hfp j g
   exact ⟨b,off,cs,by rw [e],h1,h2,h3⟩
  ·rw [List.getElem?_eq_none (by simpa using g)] at hj
   cases hj
end Go.Proofs.YthkbcfhjmnpggaaGreat

namespace Go.Proofs.YthkbcfhjmnpggaaGreat
open Go.ChangeShapes Go.WideShapes Go.RowKit
set_option maxRecDepth 100000
section
variable {H:Type} {enc:TypeId × Value→H} {W:World}
theorem cellsInt:Tryz.prog.cellsOf 3=1:=by kernel_rfl
theorem cellsStr:Tryz.prog.cellsOf 9=1:=by kernel_rfl
theorem cellsT:Tryz.prog.cellsOf 43=1:=by kernel_rfl
theorem cellsP:Tryz.prog.cellsOf 44=1:=by kernel_rfl
theorem cellsTxn:Tryz.prog.cellsOf 136=3:=by kernel_rfl
theorem cellsPage:Tryz.prog.cellsOf 138=2:=by kernel_rfl
theorem cellsRec:Tryz.prog.cellsOf 46=11:=by kernel_rfl
theorem read_rows3 {n:Nat} {cs:List Value} {y:DataW H × List MemPlace} (h:DataW.trod enc Tryz.prog W 0 (fun _=>true) true n 43 cs=some y) :
 ∃ (v:Value) (l:List Row3),cs = [v]∧Elems W v l.length (rows3 l):=by
 rcases Deep.open_slice Tryz.underlying43 h with ⟨rfl,_⟩ | ⟨a,len,cap,m,k,D,Pl,rfl,_,hl,hm,hmm,_,hx⟩
 · exact ⟨_,[],rfl,Elems.nil W⟩
 ·simp only [if_true] at hmm
  subst hmm
  have each:∀ j,j < m→∃ x:Row3,∃ b off,a=⟨b,off,none⟩∧W.cell? ⟨b,off+j*3+0,none⟩=some (.int .i64 x.1)∧W.cell? ⟨b,off+j*3+1,none⟩=some (.int .i64 x.2.1)∧W.cell? ⟨b,off+j*3+2,none⟩=some (.int .i64 x.2.2):=fun j hj=>by
   obtain ⟨cs,hc,ht⟩:=hx j hj
   rw [cellsTxn] at hc
   obtain ⟨xs,k,_,_,_,hxl,hg⟩:=DataW.trod_struct Tryz.underlying136 ht
   obtain ⟨_,hcl,hat⟩:=World.cells?_some hc
   match cs,hcl with
   | [x0,x1,x2],_ =>
    match xs,hxl with
    | [y0,y1,y2],_ =>
     have g0:DataW.trod enc Tryz.prog W 0 (fun _=>true) true k 3 (([x0,x1,x2].drop 0).take (Tryz.prog.cellsOf 3)) = [y0,y1,y2][0]?:=hg 0 _ rfl
     have g1:DataW.trod enc Tryz.prog W 0 (fun _=>true) true k 3 (([x0,x1,x2].drop 1).take (Tryz.prog.cellsOf 3)) = [y0,y1,y2][1]?:=hg 1 _ rfl
     have g2:DataW.trod enc Tryz.prog W 0 (fun _=>true) true k 3 (([x0,x1,x2].drop 2).take (Tryz.prog.cellsOf 3)) = [y0,y1,y2][2]?:=hg 2 _ rfl
     simp only [cellsInt,List.drop_zero,List.drop_succ_cons,List.take_succ_cons,List.take_zero,List.getElem?_cons_zero,List.getElem?_cons_succ] at g0 g1 g2
     obtain ⟨z0,e0,_,w0⟩:=DataW.trod_int Tryz.underlying3 g0
     obtain ⟨z1,e1,_,w1⟩:=DataW.trod_int Tryz.underlying3 g1
     obtain ⟨z2,e2,_,w2⟩:=DataW.trod_int Tryz.underlying3 g2
     simp only [List.cons.injEq,and_true] at e0 e1 e2
     subst e0 e1 e2
     have c:=fun q (hq:q < 3)=>hat q hq
     obtain ⟨blk,off,spot⟩:=a
     obtain ⟨cs0,hc0,_⟩:=hx 0 (by omega)
     rw [cellsTxn] at hc0
     obtain ⟨_,hcl0,hat0⟩:=World.cells?_some hc0
     have h0:=(hat0 0 (by omega)).trans (List.getElem?_eq_getElem (by omega))
     have hspot:spot=none:=by simpa [Addr.add] using World.cell?_spot h0
     subst hspot
     simp only [add_plain] at c
     exact ⟨(z0,z1,z2),blk,off,rfl,c 0 (by omega),c 1 (by omega),c 2 (by omega)⟩
  haveI:Inhabited Row3:=⟨(0,0,0)⟩
  obtain ⟨f,hf⟩:=Deep.choose_lt (n:=len) (p:=fun j (x:Row3)=>∃ b off,a=⟨b,off,none⟩∧W.cell? ⟨b,off+j*3+0,none⟩=some (.int .i64 x.1)∧W.cell? ⟨b,off+j*3+1,none⟩=some (.int .i64 x.2.1)∧W.cell? ⟨b,off+j*3+2,none⟩=some (.int .i64 x.2.2)) (fun j hj=>each j (by omega))
  refine ⟨_,(List.range len).map f,rfl,some a,m,by simp,by simpa using hl,hm,fun j x hj=>?_⟩
  have hjl:j < ((List.range len).map f).length*3:=by
   have:=(List.getElem?_eq_some_iff.1 hj).1
   rwa [rows3_len] at this
  have hq:j / 3 < ((List.range len).map f).length:=by omega
  have hql:j / 3 < len:=by simpa using hq
  obtain ⟨b,off,e,hc⟩:=hf (j / 3) hql
  obtain ⟨d0,d1,d2⟩:=rows3_at _ _ hq
  have hget:((List.range len).map f)[j / 3]=f (j / 3):=by simp
  rw [hget] at d0 d1 d2
  obtain ⟨c0,c1,c2⟩:=hc
  refine ⟨b,off,by rw [e],?_⟩
  have hdis:j=j / 3*3+0∨j=j / 3*3+1∨j=j / 3*3+2:=by omega
  clear hget hql hq
  generalize j / 3=q at *
  rcases hdis with hj0 | hj1 | hj2
  ·rw [hj0] at hj
   rw [Nat.add_zero] at hj
   rw [d0] at hj
   cases hj
   rw [hj0,← Nat.add_assoc]
   exact c0
  ·rw [hj1] at hj
   skip
   rw [d1] at hj
   cases hj
   rw [hj1,← Nat.add_assoc]
   exact c1
  ·rw [hj2] at hj
   skip
   rw [d2] at hj
   cases hj
   rw [hj2,← Nat.add_assoc]
   exact c2
theorem read_rows2 {n:Nat} {cs:List Value} {y:DataW H × List MemPlace} (h:DataW.trod enc Tryz.prog W 0 (fun _=>true) true n 44 cs=some y) :
 ∃ (v:Value) (l:List Row2),cs = [v]∧Elems W v l.length (rows2 l):=by
 rcases Deep.open_slice Tryz.underlying44 h with ⟨rfl,_⟩ | ⟨a,len,cap,m,k,D,Pl,rfl,_,hl,hm,hmm,_,hx⟩
 · exact ⟨_,[],rfl,Elems.nil W⟩
 ·simp only [if_true] at hmm
  subst hmm
  have each:∀ j,j < m→∃ x:Row2,∃ b off,a=⟨b,off,none⟩∧W.cell? ⟨b,off+j*2+0,none⟩=some (.int .i64 x.1)∧W.cell? ⟨b,off+j*2+1,none⟩=some (.int .i64 x.2):=fun j hj=>by
   obtain ⟨cs,hc,ht⟩:=hx j hj
   rw [cellsPage] at hc
   obtain ⟨xs,k,_,_,_,hxl,hg⟩:=DataW.trod_struct Tryz.underlying138 ht
   obtain ⟨_,hcl,hat⟩:=World.cells?_some hc
   match cs,hcl with
   | [x0,x1],_ =>
    match xs,hxl with
    | [y0,y1],_ =>
     have g0:DataW.trod enc Tryz.prog W 0 (fun _=>true) true k 3 (([x0,x1].drop 0).take (Tryz.prog.cellsOf 3)) = [y0,y1][0]?:=hg 0 _ rfl
     have g1:DataW.trod enc Tryz.prog W 0 (fun _=>true) true k 3 (([x0,x1].drop 1).take (Tryz.prog.cellsOf 3)) = [y0,y1][1]?:=hg 1 _ rfl
     simp only [cellsInt,List.drop_zero,List.drop_succ_cons,List.take_succ_cons,List.take_zero,List.getElem?_cons_zero,List.getElem?_cons_succ] at g0 g1
     obtain ⟨z0,e0,_,w0⟩:=DataW.trod_int Tryz.underlying3 g0
     obtain ⟨z1,e1,_,w1⟩:=DataW.trod_int Tryz.underlying3 g1
     simp only [List.cons.injEq,and_true] at e0 e1
     subst e0 e1
     have c:=fun q (hq:q < 2)=>hat q hq
     obtain ⟨blk,off,spot⟩:=a
     obtain ⟨cs0,hc0,_⟩:=hx 0 (by omega)
     rw [cellsPage] at hc0
     obtain ⟨_,hcl0,hat0⟩:=World.cells?_some hc0
     have h0:=(hat0 0 (by omega)).trans (List.getElem?_eq_getElem (by omega))
     have hspot:spot=none:=by simpa [Addr.add] using World.cell?_spot h0
     subst hspot
     simp only [add_plain] at c
     exact ⟨(z0,z1),blk,off,rfl,c 0 (by omega),c 1 (by omega)⟩
  haveI:Inhabited Row2:=⟨(0,0)⟩
  obtain ⟨f,hf⟩:=Deep.choose_lt (n:=len) (p:=fun j (x:Row2)=>∃ b off,a=⟨b,off,none⟩∧W.cell? ⟨b,off+j*2+0,none⟩=some (.int .i64 x.1)∧W.cell? ⟨b,off+j*2+1,none⟩=some (.int .i64 x.2)) (fun j hj=>each j (by omega))
  refine ⟨_,(List.range len).map f,rfl,some a,m,by simp,by simpa using hl,hm,fun j x hj=>?_⟩
  have hjl:j < ((List.range len).map f).length*2:=by
   have:=(List.getElem?_eq_some_iff.1 hj).1
   rwa [rows2_len] at this
  have hq:j / 2 < ((List.range len).map f).length:=by omega
  have hql:j / 2 < len:=by simpa using hq
  obtain ⟨b,off,e,hc⟩:=hf (j / 2) hql
  obtain ⟨d0,d1⟩:=rows2_at _ _ hq
  have hget:((List.range len).map f)[j / 2]=f (j / 2):=by simp
  rw [hget] at d0 d1
  obtain ⟨c0,c1⟩:=hc
  refine ⟨b,off,by rw [e],?_⟩
  have hdis:j=j / 2*2+0∨j=j / 2*2+1:=by omega
  clear hget hql hq
  generalize j / 2=q at *
  rcases hdis with hj0 | hj1
  ·rw [hj0] at hj
   rw [Nat.add_zero] at hj
   rw [d0] at hj
   cases hj
   rw [hj0,← Nat.add_assoc]
   exact c0
  ·rw [hj1] at hj
   skip
   rw [d1] at hj
   cases hj
   rw [hj1,← Nat.add_assoc]
   exact c1
def Sized (r:Rc):Prop:=r.before.size≤maxLen∧r.after.size≤maxLen
theorem read_rec {n:Nat} {cs:List Value} {y:DataW H × List MemPlace} (hcl:cs.length=11) (h:DataW.trod enc Tryz.prog W 0 (fun _=>true) true n 46 cs=some y) :
 ∃ (r:Rc) (vt vp:Value),cs=(recCells r vt vp).toList∧Lists W r vt vp∧Sized r:=by
 obtain ⟨xs,k,_,_,_,hxl,hg⟩:=DataW.trod_struct Tryz.underlying46 h
 match cs,hcl with
 | [x0,x1,x2,x3,x4,x5,x6,x7,x8,x9,x10],_ =>
  match xs,hxl with
  | [y0,y1,y2,y3,y4,y5,y6,y7,y8,y9,y10],_ =>
   have g0:DataW.trod enc Tryz.prog W 0 (fun _=>true) true k 3 (([x0,x1,x2,x3,x4,x5,x6,x7,x8,x9,x10].drop 0).take (Tryz.prog.cellsOf 3)) = [y0,y1,y2,y3,y4,y5,y6,y7,y8,y9,y10][0]?:=hg 0 _ rfl
   have g1:DataW.trod enc Tryz.prog W 0 (fun _=>true) true k 3 (([x0,x1,x2,x3,x4,x5,x6,x7,x8,x9,x10].drop 1).take (Tryz.prog.cellsOf 3)) = [y0,y1,y2,y3,y4,y5,y6,y7,y8,y9,y10][1]?:=hg 1 _ rfl
   have g2:DataW.trod enc Tryz.prog W 0 (fun _=>true) true k 3 (([x0,x1,x2,x3,x4,x5,x6,x7,x8,x9,x10].drop 2).take (Tryz.prog.cellsOf 3)) = [y0,y1,y2,y3,y4,y5,y6,y7,y8,y9,y10][2]?:=hg 2 _ rfl
   have g3:DataW.trod enc Tryz.prog W 0 (fun _=>true) true k 3 (([x0,x1,x2,x3,x4,x5,x6,x7,x8,x9,x10].drop 3).take (Tryz.prog.cellsOf 3)) = [y0,y1,y2,y3,y4,y5,y6,y7,y8,y9,y10][3]?:=hg 3 _ rfl
   have g4:DataW.trod enc Tryz.prog W 0 (fun _=>true) true k 3 (([x0,x1,x2,x3,x4,x5,x6,x7,x8,x9,x10].drop 4).take (Tryz.prog.cellsOf 3)) = [y0,y1,y2,y3,y4,y5,y6,y7,y8,y9,y10][4]?:=hg 4 _ rfl
   have g5:DataW.trod enc Tryz.prog W 0 (fun _=>true) true k 3 (([x0,x1,x2,x3,x4,x5,x6,x7,x8,x9,x10].drop 5).take (Tryz.prog.cellsOf 3)) = [y0,y1,y2,y3,y4,y5,y6,y7,y8,y9,y10][5]?:=hg 5 _ rfl
   have g6:DataW.trod enc Tryz.prog W 0 (fun _=>true) true k 3 (([x0,x1,x2,x3,x4,x5,x6,x7,x8,x9,x10].drop 6).take (Tryz.prog.cellsOf 3)) = [y0,y1,y2,y3,y4,y5,y6,y7,y8,y9,y10][6]?:=hg 6 _ rfl
   have g7:DataW.trod enc Tryz.prog W 0 (fun _=>true) true k 9 (([x0,x1,x2,x3,x4,x5,x6,x7,x8,x9,x10].drop 7).take (Tryz.prog.cellsOf 9)) = [y0,y1,y2,y3,y4,y5,y6,y7,y8,y9,y10][7]?:=hg 7 _ rfl
   have g8:DataW.trod enc Tryz.prog W 0 (fun _=>true) true k 9 (([x0,x1,x2,x3,x4,x5,x6,x7,x8,x9,x10].drop 8).take (Tryz.prog.cellsOf 9)) = [y0,y1,y2,y3,y4,y5,y6,y7,y8,y9,y10][8]?:=hg 8 _ rfl
   have g9:DataW.trod enc Tryz.prog W 0 (fun _=>true) true k 43 (([x0,x1,x2,x3,x4,x5,x6,x7,x8,x9,x10].drop 9).take (Tryz.prog.cellsOf 43)) = [y0,y1,y2,y3,y4,y5,y6,y7,y8,y9,y10][9]?:=hg 9 _ rfl
   have g10:DataW.trod enc Tryz.prog W 0 (fun _=>true) true k 44 (([x0,x1,x2,x3,x4,x5,x6,x7,x8,x9,x10].drop 10).take (Tryz.prog.cellsOf 44)) = [y0,y1,y2,y3,y4,y5,y6,y7,y8,y9,y10][10]?:=hg 10 _ rfl
   simp only [cellsInt,cellsStr,cellsT,cellsP,List.drop_zero,List.drop_succ_cons,List.take_succ_cons,List.take_zero,List.getElem?_cons_zero,List.getElem?_cons_succ] at g0 g1 g2 g3 g4 g5 g6 g7 g8 g9 g10
   obtain ⟨z0,e0,_,w0⟩:=DataW.trod_int Tryz.underlying3 g0
   obtain ⟨z1,e1,_,w1⟩:=DataW.trod_int Tryz.underlying3 g1
   obtain ⟨z2,e2,_,w2⟩:=DataW.trod_int Tryz.underlying3 g2
   obtain ⟨z3,e3,_,w3⟩:=DataW.trod_int Tryz.underlying3 g3
   obtain ⟨z4,e4,_,w4⟩:=DataW.trod_int Tryz.underlying3 g4
   obtain ⟨z5,e5,_,w5⟩:=DataW.trod_int Tryz.underlying3 g5
   obtain ⟨z6,e6,_,w6⟩:=DataW.trod_int Tryz.underlying3 g6
   obtain ⟨z7,e7,_,w7⟩:=DataW.trod_string Tryz.underlying9 g7
   obtain ⟨z8,e8,_,w8⟩:=DataW.trod_string Tryz.underlying9 g8
   obtain ⟨z9,l9,e9,r9⟩:=read_rows3 g9
   obtain ⟨z10,l10,e10,r10⟩:=read_rows2 g10
   simp only [List.cons.injEq,and_true] at e0 e1 e2 e3 e4 e5 e6 e7 e8 e9 e10
   subst e0 e1 e2 e3 e4 e5 e6 e7 e8 e9 e10
   exact ⟨⟨z0,z1,z2,z3,z4,z5,z6,z7,z8,l9,l10⟩,x9,x10,rfl,⟨r9,r10⟩,by simpa [Lit.wf] using w7,by simpa [Lit.wf] using w8⟩
end
end Go.Proofs.YthkbcfhjmnpggaaGreat

namespace Go.Proofs.YthkbcfhjmnpggaaGreat
open Go.ChangeShapes Go.WideShapes Go.RowKit
set_option maxRecDepth 100000
def RecQ (w:World) (cs:List Value) (r:Rc):Prop:=∃ vt vp,cs=(recCells r vt vp).toList∧Lists w r vt vp∧Sized r
abbrev IsRecs (w:World) (v:Value) (l:List Rc):Prop:=ListOf 11 RecQ w v l
structure RecAt (w:World) (b o:Nat) (r:Rc) (vt vp:Value):Prop where
 c0:w.cell? ⟨b,o,none⟩=some (.int .i64 r.kind)
 c1:w.cell? ⟨b,o+1,none⟩=some (.int .i64 r.txn)
 c2:w.cell? ⟨b,o+2,none⟩=some (.int .i64 r.page)
 c3:w.cell? ⟨b,o+3,none⟩=some (.int .i64 r.off)
 c4:w.cell? ⟨b,o+4,none⟩=some (.int .i64 r.prev)
 c5:w.cell? ⟨b,o+5,none⟩=some (.int .i64 r.next)
 c6:w.cell? ⟨b,o+6,none⟩=some (.int .i64 r.beg)
 c7:w.cell? ⟨b,o+7,none⟩=some (.string r.before)
 c8:w.cell? ⟨b,o+8,none⟩=some (.string r.after)
 c9:w.cell? ⟨b,o+9,none⟩=some vt
 c10:w.cell? ⟨b,o+10,none⟩=some vp
theorem RecAt.mk' {w:World} {b o:Nat} {r:Rc} {vt vp:Value} (h:∀ i u,(recCells r vt vp)[i]? = some u→w.cell? ⟨b,o+i,none⟩=some u):RecAt w b o r vt vp :=
 ⟨h 0 _ rfl,h 1 _ rfl,h 2 _ rfl,h 3 _ rfl,h 4 _ rfl,h 5 _ rfl,h 6 _ rfl,h 7 _ rfl,h 8 _ rfl,h 9 _ rfl,h 10 _ rfl⟩
theorem IsRecs.at_ {w:World} {v:Value} {l:List Rc} (h:IsRecs w v l) (hl:0 < l.length):∃ b off cap,v=.slice (some ⟨b,off,none⟩) l.length cap∧l.length≤cap∧cap≤maxLen∧b < w.heap.size ∧
 ∀ j (hj:j < l.length),∃ ta tc pa pc,Lists w l[j] (.slice ta l[j].txns.length tc) (.slice pa l[j].pages.length pc)∧Sized l[j] ∧
  RecAt w b (off+j*11) l[j] (.slice ta l[j].txns.length tc) (.slice pa l[j].pages.length pc):=by
 rcases h.cases with ⟨rfl,_⟩ | ⟨b,off,cap,rfl,_,h2,h3,h4,h5⟩
 · simp at hl
 refine ⟨b,off,cap,rfl,h2,h3,h4,fun j hj=>?_⟩
 obtain ⟨cs,⟨vt,vp,rfl,hl,hs⟩,hc⟩:=h5 j hj
 obtain ⟨ta,tc,e⟩:=hl.t.form
 obtain ⟨pa,pc,e'⟩:=hl.p.form
 subst e e'
 exact ⟨ta,tc,pa,pc,hl,hs,.mk' fun i u hu=>hc i u (by rw [Array.getElem?_toList]; exact hu)⟩
end Go.Proofs.YthkbcfhjmnpggaaGreat

namespace Go.Proofs.YthkbcfhjmnpggaaGreat
open Go.RowKit
def OldR (B:Nat) (r:Rc) (vt vp:Value):Prop:=(rows3 r.txns≠[]→∀ b,vt.ownBlock=some b→b < B)∧(rows2 r.pages≠[]→∀ b,vp.ownBlock=some b→b < B)
theorem Lists.old {w:World} {r:Rc} {vt vp:Value} (h:Lists w r vt vp):OldR w.heap.size r vt vp:=⟨fun hr=>h.t.blt hr,fun hr=>h.p.blt hr⟩
namespace KeptE
variable {w0 w w':World} {F F':Foot} {v:Value} {q:List Qe}
end KeptE
end Go.Proofs.YthkbcfhjmnpggaaGreat

namespace Go.Proofs.YthkbcfhjmnpggaaGreat
open Go.RowKit
theorem OwnE.low {w:World} {B B':Nat} {v:Value} {q:List Qe} (h:OwnE w B v q) (hB:B'≤B):OwnE w B' v q:=by
 refine ⟨?_,h.lists,h.apart⟩
 obtain ⟨hl,h0 | ⟨g,cap,cur,rfl,hb,h1⟩⟩:=h.own
 · exact ⟨hl,.inl h0⟩
 · exact ⟨hl,.inr ⟨g,cap,cur,rfl,Nat.le_trans hB hb,h1⟩⟩
theorem OwnE.srcx {w:World} {B:Nat} {v:Value} {q:List Qe} (h:OwnE w B v q):Src w 12 v q.length (entsV q):=by
 refine ⟨entsV_len q,entsV_one q fun x hx=>⟨w,h.lists x hx⟩,?_⟩
 rcases own_any h.own with ⟨rfl,h0,_⟩ | ⟨g,cap,rfl,_,_⟩
 · exact .inl ⟨rfl,h0⟩
 · exact .inr ⟨_,cap,rfl,h.own.cells (g:=g) rfl⟩
theorem OwnE.joined {w2 w3:World} {B B':Nat} {v2 v v3:Value} {q2 q:List Qe} (h2:OwnE w2 B v2 q2) (h:OwnE w2 B' v q) (hr:∀ x ∈ q,(rows3 x.r.txns≠[]→∀ b,x.vt.ownBlock=some b→b < B)∧(rows2 x.r.pages≠[]→∀ b,x.vp.ownBlock=some b→b < B)) (hB:B≤w2.heap.size)
 (ho:w3.ownsRow B 108 12 v3 (q2.length+q.length) (entsV q2++entsV q)) (hg:w2.grownBy w3 v2.ownBlock) (hat:v3.ownBlock=v2.ownBlock∨v3.ownBlock=some w2.heap.size):OwnE w3 B v3 (q2++q):=by
 have hon:Only (fun b=>v2.ownBlock=some b) w2 w3:=(Only.refl _ w2).grown hg fun b hb=>.inl hb
 have hvB:∀ b,v2.ownBlock=some b→B≤b:=fun b hb=>(h2.own.lt b hb).1
 refine ⟨by rw [List.length_append,show entsV (q2++q)=entsV q2++entsV q by unfold entsV; rw [List.flatMap_append]]; exact ho,fun x hx=>?_,fun x hx b hb=>?_⟩
 ·rcases List.mem_append.1 hx with hx | hx
  · exact (h2.lists x hx).keepA hon (fun hr b hb e=>(h2.apart x hx b e).1 hr hb) (fun hr b hb e=>(h2.apart x hx b e).2 hr hb)
  · exact (h.lists x hx).keepA hon (fun hr2 b hb e=>by have:=(hr x hx).1 hr2 b hb; have:=hvB b e; omega) (fun hr2 b hb e=>by have:=(hr x hx).2 hr2 b hb; have:=hvB b e; omega)
 ·rcases List.mem_append.1 hx with hx | hx
  ·rcases hat with hat | hat
   · exact h2.apart x hx b (hat ▸ hb)
   ·rw [hat] at hb
    cases hb
    exact ⟨fun hr e=>by have:=(h2.lists x hx).t.blt hr _ e; omega,fun hr e=>by have:=(h2.lists x hx).p.blt hr _ e; omega⟩
  ·have hbB:B≤b:=by
    rcases hat with hat | hat
    · exact hvB b (hat ▸ hb)
    · rw [hat] at hb; cases hb; exact hB
   exact ⟨fun hr2 e=>by have:=(hr x hx).1 hr2 b e; omega,fun hr2 e=>by have:=(hr x hx).2 hr2 b e; omega⟩
section
variable {w:World} {F FL:Foot} {g gl gd:Nat} {t:Tp} {l:Wl}
theorem add_any (hT:IsTp w F g t) (hL:IsLog w FL gl gd l) (hap:∀ b,F b→¬ FL b) (hlen:t.l.length≤40000000) :
 Calls Tryz.prog 15 #[.pointer (some ⟨g,0,none⟩),.pointer (some ⟨gl,0,none⟩)] w fun e w'=>e=.returned (.tuple #[.int .i64 (t.addN l),.int .i64 (t.err l)])∧∃ F',IsTp w' F' g (t.add l)∧Step F F' w w':=by
 by_cases h:t.upto < l.low
 ·have e1:t.addN l=0:=if_pos h
  have e2:t.err l=11:=if_pos h
  have e3:t.add l=t:=if_pos h
  rw [e1,e2,e3]
  refine (add_bad (rest_state hT hL h) (.inr rfl)).mono ?_
  rintro e w1 ⟨rfl,rfl⟩
  exact ⟨rfl,F,hT,Step.refl _ _⟩
 ·have e2:t.err l=0:=if_neg h
  rw [e2]
  exact add_ok hT hL hap (by omega) hlen
def EntsErr (w:World) (es:List Ent) (er:Int) (e:Ending) (w':World):Prop:=∃ v q,e=.returned (.tuple #[v,.int .i64 er])∧q.map Qe.ent=es∧OwnE w' w.heap.size v q∧Below w.heap.size w w'∧FreshQ w.heap.size q
set_option maxRecDepth 100000 in
set_option maxHeartbeats 2000000 in
theorem tapeWhole_bad {g:Option Addr} {v:Value} {er:Int} (hr:Calls Tryz.prog 49 #[.pointer g,v] w fun e w'=>e=.returned (.tuple #[.slice none 0 0,.int .i64 er])∧w=w') (he:er=10∨er=11) :
 Calls Tryz.prog 25 #[.pointer g,v] w (EntsErr w [] er):=by
 have K:=Lib.hid hr
 clear hr
 rcases he with rfl | rfl
 all_goals
  go_enter Tryz.func25,Tryz.ntmps25
  go_wp2_with fail
  refine K.out.mono ?_
  rintro e w1 ⟨rfl,rfl⟩
  go_wp2
  go_ret2
  exact ⟨_,[],rfl,rfl,OwnE.nil _ _,Below.refl _ _,FreshQ.nil _⟩
set_option maxRecDepth 100000 in
set_option maxHeartbeats 4000000 in
theorem tapeWhole_ok (hT:IsTp w F g t) (hL:IsLog w FL gl gd l) (hlow:l.low≤t.upto) (hlen:t.l.length≤40000000) :
 Calls Tryz.prog 25 #[.pointer (some ⟨g,0,none⟩),.pointer (some ⟨gl,0,none⟩)] w (EntsErr w (t.whole l) 0):=by
 have REST:=Lib.hid (rest_ok hT hL hlow)
 have HT:=Lib.hid hT
 have HWH:Hid (t.whole l=t.l++t.behind l):=if_neg (by omega)
 have HCNT:Hid ((t.behind l).length≤7168):=Nat.le_trans (List.length_filter_le _ _) (Wl.all_count hL.1)
 have HLEN:=Lib.hid hlen
 obtain ⟨i0,hi0,hz0,hz1,hz2⟩:=info_parts ta_info
 have HI:=Lib.hid (And.intro hi0 (And.intro hz0 (And.intro hz1 hz2)))
 clear hT hL hlow hlen hi0 hz0 hz1 hz2
 go_enter Tryz.func25,Tryz.ntmps25
 go_wp2_with fail
 refine REST.out.mono ?_
 rintro e w1 ⟨vr,qr,rfl,hqr,hor,hb1,hfr⟩
 have L1:=Lib.hid (tapeList_any (HT.out.below hb1))
 have HO:=Lib.hid (And.intro hqr (And.intro hor (And.intro hb1 hfr)))
 clear hqr hor hb1 hfr REST HT
 go_wp2_with fail
 refine L1.out.mono ?_
 rintro e w2 ⟨v2,q2,rfl,hq2,ho2,hb2,hf2⟩
 have hn2:q2.length≤40000000:=by
  have e:=congrArg List.length hq2
  rw [List.length_map] at e
  have:=HLEN.out
  omega
 have hnr:qr.length≤7168:=by
  have e:=congrArg List.length HO.out.1
  rw [List.length_map] at e
  have:=HCNT.out
  omega
 have hor2:=HO.out.2.1.keep hb2
 have SRC:=Lib.hid hor2.srcx
 have JOIN:Hid (∀ w3 v3,w3.ownsRow w1.heap.size 108 12 v3 (q2.length+qr.length) (entsV q2++entsV qr)→w2.grownBy w3 v2.ownBlock→(v3.ownBlock=v2.ownBlock∨v3.ownBlock=some w2.heap.size)→OwnE w3 w.heap.size v3 (q2++qr)∧Below w.heap.size w w3):=fun w3 v3 h1 h2 h3=>by
  refine ⟨(ho2.joined hor2 (fun x hx=>⟨fun hr b hb=>(HO.out.2.1.lists x hx).t.blt hr b hb,fun hr b hb=>(HO.out.2.1.lists x hx).p.blt hr b hb⟩) hb2.size h1 h2 h3).low HO.out.2.2.1.size,?_⟩
  exact (below2 HO.out.2.2.1 hb2).grown h2 (Nat.le_trans HO.out.2.2.1.size hb2.size) fun k hk=>Nat.le_trans HO.out.2.2.1.size (ho2.own.lt k hk).1
 have HE:Hid ((q2++qr).map Qe.ent=t.whole l∧FreshQ w.heap.size (q2++qr)):=by
  refine ⟨by rw [HWH.out,List.map_append,hq2,HO.out.1],fun x hx=>?_⟩
  rcases List.mem_append.1 hx with hx | hx
  · exact (hf2.base HO.out.2.2.1.size) x hx
  · exact HO.out.2.2.2 x hx
 have OWN:=Lib.hid ho2.own
 have HSZ:Hid (w1.heap.size≤w2.heap.size):=hb2.size
 obtain ⟨a2,c2,hv2⟩:=own_slice ho2.own
 obtain ⟨ar,cr,hvr⟩:=own_slice HO.out.2.1.own
 clear hq2 ho2 hb2 hf2 hor2 HO L1
 subst hv2
 subst hvr
 obtain ⟨hi0,hz0,hz1,hz2⟩:=HI.out
 go_wp2_with (at_builtin; refine wpList_append_src rfl (.tmp 18) (.tmp 19) 40 rfl w1.heap.size 108 i0 _ 12 144 Tryz.underlying40 hi0 hz0 hz1 hz2 rfl (by decide) _ _ _ rfl OWN.out _ qr.length (entsV qr) rfl SRC.out (by simp only [maxLen]; omega) (by omega) HSZ.out ?_)
 intro v3 w3 hown hgrow hat
 have J:=Lib.hid (JOIN.out w3 v3 hown hgrow hat)
 obtain ⟨a3,c3,hv3⟩:=own_slice hown
 clear hown hgrow hat JOIN SRC OWN hi0 hz0 hz1 hz2 HI HSZ
 subst hv3
 go_wp2
 go_ret2
 exact ⟨_,_,rfl,HE.out.1,J.out.1,J.out.2,HE.out.2⟩
theorem tapeWhole_any (hT:IsTp w F g t) (hL:IsLog w FL gl gd l) (hlen:t.l.length≤40000000) :
 Calls Tryz.prog 25 #[.pointer (some ⟨g,0,none⟩),.pointer (some ⟨gl,0,none⟩)] w (EntsErr w (t.whole l) (t.err l)):=by
 by_cases h:t.upto < l.low
 ·have e1:t.whole l = []:=if_pos h
  have e2:t.err l=11:=if_pos h
  rw [e1,e2]
  exact tapeWhole_bad (rest_state hT hL h) (.inr rfl)
 ·have e2:t.err l=0:=if_neg h
  rw [e2]
  exact tapeWhole_ok hT hL (by omega) hlen
end
structure LiveT (w0 w:World) (FD FL FT:Foot) (g gd gt:Nat) (D:Dk) (l:Wl) (t:Tp):Prop where
 live:LiveL w0 w FD FL g gd D l
 tape:IsTp w FT gt t
 newT:∀ b,FT b→w0.heap.size≤b
 apart:∀ b,FT b→¬ Both FD FL b
namespace LiveT
variable {w0 w w':World} {FD FL FT FD' FL' FT':Foot} {g gd gt:Nat} {D D':Dk} {l l':Wl} {t t':Tp}
theorem more (h:LiveT w0 w FD FL FT g gd gt D l t) (hb:Below w.heap.size w w'):LiveT w0 w' FD FL FT g gd gt D l t:=⟨h.live.more hb,h.tape.below hb,h.newT,h.apart⟩
theorem lt (h:LiveT w0 w FD FL FT g gd gt D l t):∀ b,Both FD FL b→b < w.heap.size:=fun b hb=>hb.elim (h.live.sys.disk.lt b) (h.live.sys.log.lt b)
theorem log (h:LiveT w0 w FD FL FT g gd gt D l t) {g':Nat} (hl:LiveL w0 w' FD' FL' g' gd D' l') (st:Step (Both FD FL) (Both FD' FL') w w'):LiveT w0 w' FD' FL' FT g' gd gt D' l' t :=
 ⟨hl,h.tape.only (S:=Both FD FL) ⟨st.os,st.tape,st.output,st.size,st.block⟩ h.apart,h.newT,fun b hb hf=>(st.foot b hf).elim (h.apart b hb) fun hg=>by have:=h.tape.lt b hb; omega⟩
theorem next (h:LiveT w0 w FD FL FT g gd gt D l t) (hT:IsTp w' FT' gt t') (st:Step FT FT' w w'):LiveT w0 w' FD FL FT' g gd gt D l t' :=
 ⟨h.live.only (S:=FT) ⟨st.os,st.tape,st.output,st.size,st.block⟩ (fun b hb hf=>h.apart b hf hb) h.newT,hT,st.from_ h.newT h.live.below.size,fun b hb hf=>(st.foot b hb).elim (fun h2=>h.apart b h2 hf) fun hg=>by have:=h.lt b hf; omega⟩
theorem add (h:LiveT w0 w FD FL FT g gd gt D l t) (hlen:t.l.length≤40000000) :
 Calls Tryz.prog 15 #[.pointer (some ⟨gt,0,none⟩),.pointer (some ⟨g,0,none⟩)] w fun e w'=>e=.returned (.tuple #[.int .i64 (t.addN l),.int .i64 (t.err l)])∧∃ FT',LiveT w0 w' FD FL FT' g gd gt D l (t.add l)∧Step FT FT' w w' :=
 (add_any h.tape h.live.sys.log (fun b hb hf=>h.apart b hb (.inr hf)) hlen).mono fun _ _ ⟨he,F',hT,st⟩=>⟨he,F',h.next hT st,st⟩
theorem cut (h:LiveT w0 w FD FL FT g gd gt D l t) (x:Int) (hs:l.first≤2147483647) :
 Calls Tryz.prog 17 #[.pointer (some ⟨g,0,none⟩),.int .i64 x] w fun e w'=>e=.returned (.int .i64 (l.cutE x))∧LiveT w0 w' FD FL FT g gd gt D (l.cutI x) t∧Step (Both FD FL) (Both FD FL) w w' :=
 (cut_any h.live.sys.log x hs).mono fun _ _ ⟨he,hl,st⟩=>⟨he,h.log (h.live.step (h.live.sys.onLog hl st).1 (h.live.sys.onLog hl st).2) (h.live.sys.onLog hl st).2,(h.live.sys.onLog hl st).2⟩
end LiveT
end Go.Proofs.YthkbcfhjmnpggaaGreat

namespace Go.Proofs.YthkbcfhjmnpggaaGreat
open Go.RowKit
def fullL (c:UInt8):List UInt8:=List.replicate 128 c
end Go.Proofs.YthkbcfhjmnpggaaGreat

namespace Go.Proofs.YthkbcfhjmnpggaaGreat
open Go.RowKit
def refFuse (f:Option Nat):Int:=match f with | some n=>n | none=>-1
def refCells (vs vq:Value) (gone:Bool) (fuse:Int):Array Value:=#[vs,vq,.bool gone,.int .i64 fuse]
structure RefRaw (w:World) (F:Foot) (g:Nat) (d:Dk) (vs vq:Value):Prop where
 head:Blk w g 65 (refCells vs vq d.gone (refFuse d.fuse))
 safe:w.ownsRow 0 9 1 vs d.safe.length (strsV d.safe)
 wait:w.ownsRow 0 115 2 vq d.waits.length (waitsV d.waits)
 fg:F g
 fs:∀ b,vs.ownBlock=some b→F b
 fq:∀ b,vq.ownBlock=some b→F b
 lt:∀ b,F b→b < w.heap.size
def IsRef (w:World) (F:Foot) (g:Nat) (d:Dk):Prop:=∃ vs vq,RefRaw w F g d vs vq
namespace RefRaw
variable {w w' W w1:World} {F F' F2 F2':Foot} {g:Nat} {d:Dk} {vs vq:Value}
theorem keep (h:RefRaw w F g d vs vq) (hk:∀ b,F b→w'.heap[b]? = w.heap[b]?) (hs:w.heap.size≤w'.heap.size):RefRaw w' F g d vs vq :=
 ⟨(hk g h.fg).trans h.head,own_keep h.safe fun b hb=>hk b (h.fs b hb),own_keep h.wait fun b hb=>hk b (h.fq b hb),h.fg,h.fs,h.fq,fun b hb=>Nat.lt_of_lt_of_le (h.lt b hb) hs⟩
theorem below (h:RefRaw w F g d vs vq) (hb:Below w.heap.size w w'):RefRaw w' F g d vs vq:=h.keep (fun b hF=>hb.block b (h.lt b hF)) hb.size
theorem drew (h:RefRaw w F g d vs vq):RefRaw w.drew F g d vs vq:=h.keep (fun _ _=>rfl) (Nat.le_refl _)
theorem cells (h:RefRaw w F g d vs vq):w.cell? ⟨g,0,none⟩=some vs∧w.cell? ⟨g,1,none⟩=some vq∧w.cell? ⟨g,2,none⟩=some (.bool d.gone)∧w.cell? ⟨g,3,none⟩=some (.int .i64 (refFuse d.fuse)) :=
 ⟨h.head.cell 0,h.head.cell 1,h.head.cell 2,h.head.cell 3⟩
theorem frozen (h:RefRaw w F g d vs vq) (i:Nat):w.frozen? ⟨g,i,none⟩=false:=h.head.frozen i
theorem gs (h:RefRaw w F g d vs vq):vs.ownBlock≠some g:=own_blk h.safe h.head (by decide)
theorem gq (h:RefRaw w F g d vs vq):vq.ownBlock≠some g:=own_blk h.wait h.head (by decide)
theorem sq (h:RefRaw w F g d vs vq) {b:Nat} (hb:vs.ownBlock=some b):vq.ownBlock≠some b:=own_apart h.safe h.wait (by decide) hb
theorem reheaded (h:RefRaw w F g d vs vq) {gone:Bool} {k:Option Nat} (hb:Blk w' g 65 (refCells vs vq gone (refFuse k)))
 (far:∀ b,b≠g→w'.heap[b]? = w.heap[b]?) (hs:w.heap.size≤w'.heap.size):RefRaw w' F g { d with gone:=gone,fuse:=k } vs vq :=
 ⟨hb,own_keep h.safe fun b hb=>far b (fun e=>h.gs (by rw [hb,e])),own_keep h.wait fun b hb=>far b (fun e=>h.gq (by rw [hb,e])),h.fg,h.fs,h.fq,fun b hb=>Nat.lt_of_lt_of_le (h.lt b hb) hs⟩
theorem set1 (h:RefRaw w F g d vs vq) (i:Nat) (v:Value) {gone:Bool} {k:Option Nat} (e:(refCells vs vq d.gone (refFuse d.fuse)).setIfInBounds i v=refCells vs vq gone (refFuse k)) :
 RefRaw (w.setCell ⟨g,i,none⟩ v) F g { d with gone:=gone,fuse:=k } vs vq :=
 h.reheaded (by rw [← e]; exact h.head.set i v) (fun b hb=>heap_setCell_other w ⟨g,i,none⟩ b v hb) (by simp [World.setCell])
theorem stored {b cap n:Nat} (h:RefRaw w F g d (.slice (some ⟨b,0,none⟩) n cap) vq) (hn:n=d.safe.length) (k:Nat) (s:ByteArray) :
 RefRaw (w.setCell ⟨b,k,none⟩ (.string s)) F g { d with safe:=d.safe.set k s } (.slice (some ⟨b,0,none⟩) n cap) vq∧Step F F w (w.setCell ⟨b,k,none⟩ (.string s)):=by
 subst hn
 have set:∀ c,c≠b→(w.setCell ⟨b,k,none⟩ (.string s)).heap[c]? = w.heap[c]?:=fun c hc=>heap_setCell_other w ⟨b,k,none⟩ c _ hc
 have hb:(Value.slice (some ⟨b,0,none⟩) d.safe.length cap).ownBlock=some b:=rfl
 have so:=(h.safe.stored k (.string s)).1
 rw [strsV_set] at so
 refine ⟨⟨(set g fun e=>h.gs (by rw [hb,e])).trans h.head,?_,own_keep h.wait fun c hc=>set c (fun e=>h.sq hb (by rw [hc,e])),h.fg,h.fs,h.fq,fun c hc=>by simpa [World.setCell] using h.lt c hc⟩,(Step.refl F w).set (p:=⟨b,k,none⟩) (h.fs b hb) _⟩
 have e:(d.safe.set k s).length=d.safe.length:=List.length_set ..
 show World.ownsRow _ _ _ _ _ (d.safe.set k s).length _
 rw [e]
 exact so
theorem rewait (h:RefRaw W F g d vs vq) (l:List (Nat × ByteArray)) {v':Value} (hown:w1.ownsRow 0 115 2 v' l.length (waitsV l))
 (hst:Step F F W w1) (hfar:∀ b,b < W.heap.size→vq.ownBlock≠some b→w1.heap[b]? = W.heap[b]?) (hat:∀ b,v'.ownBlock=some b→F b∨W.heap.size≤b) :
 RefRaw (w1.setCell ⟨g,1,none⟩ v') (fun b=>F b∨v'.ownBlock=some b) g { d with waits:=l } vs v'∧Step F (fun b=>F b∨v'.ownBlock=some b) W (w1.setCell ⟨g,1,none⟩ v'):=by
 have lt:=h.lt
 have hh:Blk w1 g 65 (refCells vs vq d.gone (refFuse d.fuse)):=(hfar g (lt g h.fg) h.gq).trans h.head
 have hv:v'.ownBlock≠some g:=own_blk hown hh (by decide)
 have set:∀ b,b≠g→(w1.setCell ⟨g,1,none⟩ v').heap[b]? = w1.heap[b]?:=fun b hb=>heap_setCell_other w1 ⟨g,1,none⟩ b _ hb
 have hs2:Step F (fun b=>F b∨v'.ownBlock=some b) W w1:=⟨hst.os,hst.tape,hst.output,hst.size,hst.block,fun b hb=>hb.elim .inl (hat b)⟩
 refine ⟨⟨hh.set 1 v',?_,?_,.inl h.fg,fun b hb=>.inl (h.fs b hb),fun b hb=>.inr hb,fun b hb=>?_⟩,hs2.set (p:=⟨g,1,none⟩) (.inl h.fg) _⟩
 · exact own_keep h.safe fun b hb=>(set b (fun e=>h.gs (by rw [hb,e]))).trans (hfar b (lt b (h.fs b hb)) (h.sq hb))
 · exact own_keep (w':=w1.setCell ⟨g,1,none⟩ v') hown fun b hb=>set b (fun e=>hv (by rw [hb,e]))
 ·show b < (w1.setCell _ _).heap.size
  rcases hb with hb | hb
  · have:=lt b hb; have:=hst.size; simp [World.setCell]; omega
  · have:=(hown.lt b hb).2; simpa [World.setCell] using this
theorem dropped (h:RefRaw w F g d vs vq):RefRaw (w.setCell ⟨g,1,none⟩ (.slice none 0 0)) F g { d with waits:=[] } vs (.slice none 0 0)∧Step F F w (w.setCell ⟨g,1,none⟩ (.slice none 0 0)):=by
 obtain ⟨r,_⟩:=h.rewait (v':=.slice none 0 0) [] (World.ownsRow_nil _ _ _ _) (Step.refl F w) (fun _ _ _=>rfl) (fun b hb=>by simp [Value.ownBlock] at hb)
 exact ⟨⟨r.head,r.safe,r.wait,h.fg,h.fs,fun b hb=>by simp [Value.ownBlock] at hb,fun b hb=>r.lt b (.inl hb)⟩,(Step.refl F w).set (p:=⟨g,1,none⟩) h.fg _⟩
end RefRaw
namespace IsRef
variable {w w':World} {F F' F2 F2':Foot} {g:Nat} {d:Dk}
theorem keep (h:IsRef w F g d) (hk:∀ b,F b→w'.heap[b]? = w.heap[b]?) (hs:w.heap.size≤w'.heap.size):IsRef w' F g d:=by
 obtain ⟨vs,vq,r⟩:=h
 exact ⟨vs,vq,r.keep hk hs⟩
theorem below (h:IsRef w F g d) (hb:Below w.heap.size w w'):IsRef w' F g d:=by
 obtain ⟨vs,vq,r⟩:=h
 exact ⟨vs,vq,r.below hb⟩
theorem lt (h:IsRef w F g d):∀ b,F b→b < w.heap.size:=by obtain ⟨_,_,r⟩:=h; exact r.lt
end IsRef
section
variable {w:World} {F:Foot} {g:Nat} {d:Dk}
set_option maxRecDepth 100000 in
set_option maxHeartbeats 1000000 in
theorem refZero_any (w:World):Calls Tryz.prog 34 #[] w fun e w'=>e=.returned (.string zero128)∧Below w.heap.size w w':=by
 obtain ⟨i,hi,hz,hs1,hs2⟩:=info_parts (show (Tryz.prog.info? 5).map (fun i=>(i.zero,i.size,i.bytes))=some (some (.int .u8 0),1,1) from by kernel_rfl)
 have hmk:∀ W:World,(Instr.makeSlice 47 (.int .i64 128) (.int .i64 128)).run Tryz.prog W=.ok (.slice (some ⟨W.heap.size,0,none⟩) 128 128) (W.alloc (.cells (bytesV (fullL 0)) 5)):=fun W=>by
  have h:=run_make (P:=Tryz.prog) W 47 5 i (.int .u8 0) Tryz.underlying47 hi hz .i64 .i64 128 128 (by omega) (by omega) (by rw [hs2]; omega) (by omega)
  have e:madeCells (Value.int .u8 0).cells ((128:Int).toNat*i.size)=bytesV (fullL 0):=by
   rw [hs1]
   apply Array.ext'
   rw [show (Value.int .u8 0).cells=#[Value.int .u8 0] from rfl,toList_madeCells_one]
   simp [bytesV,fullL]
  rw [e] at h
  simpa using h
 have hcv:=conv_blk (Blk.new w 5 (bytesV (fullL 0))) 0 128 128 (by simp [fullL]) 47 5 9 Tryz.underlying47 Tryz.underlying5 Tryz.underlying9
 rw [List.drop_zero,List.take_of_length_le (by simp [fullL])] at hcv
 go_enter Tryz.func34,Tryz.ntmps34
 go_wp2
 go_ret
 exact ⟨rfl,(Below.refl _ _).alloc (Nat.le_refl _) _⟩
theorem ref_set {v:Value} {i:Nat} (hg:F g):Step F F w (w.setCell ⟨g,i,none⟩ v):=(Step.refl F w).set (p:=⟨g,i,none⟩) hg v
set_option maxRecDepth 100000 in
set_option maxHeartbeats 1000000 in
theorem borne_any (h:IsRef w F g d) (hfl:∀ f,d.fuse=some f→f < 9223372036854775808) (b:Bool) (hb:b=d.bears) :
 Calls Tryz.prog 78 #[.pointer (some ⟨g,0,none⟩)] w fun e w'=>e=.returned (.bool b)∧IsRef w' F g d.burn∧Step F F w w':=by
 obtain ⟨vs,vq,r⟩:=h
 obtain ⟨_,_,c2,c3⟩:=r.cells
 have f2:=r.frozen 2
 have f3:=r.frozen 3
 have hsg:=fun v i=>@ref_set w F g v i r.fg
 obtain ⟨safe,waits,gone,fuse⟩:=d
 cases gone with
 | true =>
   obtain rfl:b=false:=hb
   have hd:IsRef (w.setCell ⟨g,2,none⟩ (.bool true)) F g (Dk.mk safe waits true fuse).burn:=by
    have e:(Dk.mk safe waits true fuse).burn=Dk.mk safe waits true fuse:=by cases fuse <;> rfl
    rw [e]
    exact ⟨vs,vq,r.set1 2 (.bool true) (gone:=true) (k:=fuse) rfl⟩
   have HD:=Lib.hid hd
   have HS:=Lib.hid (hsg (.bool true) 2)
   clear hd r hsg hfl
   go_enter Tryz.func78,Tryz.ntmps78
   go_wp2
   go_ret
   exact ⟨rfl,HD.out,HS.out⟩
 | false =>
   cases fuse with
   | none =>
     obtain rfl:b=true:=hb
     have hd:IsRef w F g (Dk.mk safe waits false none).burn:=⟨vs,vq,r⟩
     have HD:=Lib.hid hd
     change w.cell? _=some (.int .i64 (-1)) at c3
     clear hd r hsg hfl
     go_enter Tryz.func78,Tryz.ntmps78
     go_wp2
     go_ret
     exact ⟨rfl,HD.out,Step.refl _ _⟩
   | some f =>
     cases f with
     | zero =>
       obtain rfl:b=false:=hb
       have hd:IsRef (w.setCell ⟨g,2,none⟩ (.bool true)) F g (Dk.mk safe waits false (some 0)).burn :=
        ⟨vs,vq,r.set1 2 (.bool true) (gone:=true) (k:=some 0) rfl⟩
       have HD:=Lib.hid hd
       have HS:=Lib.hid (hsg (.bool true) 2)
       change w.cell? _=some (.int .i64 0) at c3
       clear hd r hsg hfl
       go_enter Tryz.func78,Tryz.ntmps78
       go_wp2
       go_ret
       exact ⟨rfl,HD.out,HS.out⟩
     | succ f =>
       obtain rfl:b=true:=hb
       change w.cell? _=some (.int .i64 ((f+1:Nat):Int)) at c3
       have hlt:=hfl (f+1) rfl
       have e5:(((f+1:Nat):Int) == 0)=false:=by rw [beq_eq_false_iff_ne]; omega
       have e6:decide ((0:Int) < ((f+1:Nat):Int))=true:=by simp
       have e7:(0:Int) < ((f+1:Nat):Int):=by omega
       have ew:IntKind.i64.wrap (((f+1:Nat):Int) - 1)=(f:Int):=by rw [IntKind.wrap_i64]; omega
       have hd:IsRef (w.setCell ⟨g,3,none⟩ (.int .i64 (f:Int))) F g (Dk.mk safe waits false (some (f+1))).burn :=
        ⟨vs,vq,r.set1 3 (.int .i64 (f:Int)) (gone:=false) (k:=some f) rfl⟩
       have HD:=Lib.hid hd
       have HS:=Lib.hid (hsg (.int .i64 (f:Int)) 3)
       generalize ((f+1:Nat):Int)=x at *
       generalize (f:Int)=y at *
       clear hd r hsg hlt hfl
       go_enter Tryz.func78,Tryz.ntmps78
       go_wp2
       go_ret
       exact ⟨rfl,HD.out,HS.out⟩
end
end Go.Proofs.YthkbcfhjmnpggaaGreat
