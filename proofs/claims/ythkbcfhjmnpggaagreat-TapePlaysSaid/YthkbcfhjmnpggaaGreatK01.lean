/- Texts that belong together, joined: Bytes, RecM, Clone, Num4. -/
import Derived.Test.YthkbcfhjmnpggaaGreatRows
import Derived.Test.YthkbcfhjmnpggaaGreatK00
import Derived.Handy
import Derived.Lib.BufferWrite
import Derived.Lib.UnsafeStr
namespace Go.Proofs.YthkbcfhjmnpggaaGreat
open Go.RowKit
theorem info_u8:(Tryz.prog.info? 5).map (·.size)=some 1:=by kernel_rfl
def bytesV (l:List UInt8):Array Value:=(l.map fun b=>Value.int .u8 b.toNat).toArray
theorem bytesV_size (l:List UInt8):(bytesV l).size=l.length:=by simp [bytesV]
theorem bytesV_set (l:List UInt8) (i:Nat) (v:UInt8):(bytesV l).setIfInBounds i (.int .u8 v.toNat)=bytesV (l.set i v):=by
 simp [bytesV,List.map_set]
theorem splice_nil {α:Type} (l:List α) (o:Nat):splice l o []=l:=by simp [splice]
theorem splice_cons {α:Type} (l:List α) (o:Nat) (x:α) (xs:List α) (h:o < l.length):splice l o (x::xs)=splice (l.set o x) (o+1) xs:=by
 unfold splice
 have h1:(l.set o x).take (o+1)=l.take o++[x]:=by
  rw [List.take_succ_eq_append_getElem (by simpa using h)]
  simp [List.take_set_of_le]
 have h2:(l.set o x).drop (o+1+xs.length)=l.drop (o+(x::xs).length):=by
  rw [List.drop_set_of_lt (by omega)]
  congr 1
  simp
  omega
 rw [h1,h2]
 simp
theorem grown_set (w:World) (g i:Nat) (v:Value):w.grownBy (w.setCell ⟨g,i,none⟩ v) (some g) :=
 ⟨rfl,rfl,rfl,by simp [World.setCell],fun k _ hne=>heap_setCell_other w _ k v (fun e=>hne (by rw [e]))⟩
theorem grown_trans' {a b c:World} {r:Option Nat} (h:a.grownBy b r) (k:b.grownBy c r):a.grownBy c r :=
 ⟨k.os.trans h.os,k.tape.trans h.tape,k.output.trans h.output,Nat.le_trans h.size k.size,fun i hi hne=>(k.block i (Nat.lt_of_lt_of_le hi h.size) hne).trans (h.block i hi hne)⟩
theorem Blk.setB {w:World} {g t:Nat} {l:List UInt8} (h:Blk w g t (bytesV l)) (i x:Nat) (v:Int) (hv:v=(x:Int) % 256) :
 Blk (w.setCell ⟨g,i,none⟩ (.int .u8 v)) g t (bytesV (l.set i (UInt8.ofNat x))):=by
 have e:v=((UInt8.ofNat x).toNat:Int):=by rw [hv]; simp
 rw [e,← bytesV_set]
 exact h.set i _
theorem bytesV_splice (l:List UInt8) (o:Nat) (c:List UInt8):((bytesV l).toList.take o++Lib.byteCells c++(bytesV l).toList.drop (o+c.length)).toArray=bytesV (splice l o c):=by
 simp [bytesV,Lib.byteCells,splice,List.map_take,List.map_drop]
set_option maxRecDepth 100000 in
theorem conv_blk {w:World} {g t:Nat} {l:List UInt8} (h:Blk w g t (bytesV l)) (off len cap:Nat) (ho:off+len≤l.length) (src e dst:TypeId)
 (hs:Tryz.prog.underlying src=some (.slice e)) (he:Tryz.prog.underlying e=some (.int .u8)) (hd:Tryz.prog.underlying dst=some .string) :
 (convert src dst (.slice (some ⟨g,off,none⟩) len cap)).run Tryz.prog w=.ok (.string ⟨((l.drop off).take len).toArray⟩) w:=by
 have hr:=run_convert_bytes_arg (P:=Tryz.prog) w src e hs he g off len cap (((l.drop off).take len).map fun b=>(b.toNat:Int)) (by simp; omega) (fun i hi=>by
  rw [h.cell]
  simp only [bytesV,List.getElem?_toArray,List.getElem?_map]
  rw [List.getElem?_eq_getElem (by omega)]
  simp [List.getD,hi,show off+i < l.length by omega]) dst hd
 rw [hr]
 congr 2
 unfold strOfNums
 rw [List.map_map]
 congr 2
 conv=>rhs; rw [← List.map_id ((l.drop off).take len)]
 congr 1
 funext b
 simp
set_option maxRecDepth 100000 in
theorem conv_cells {w:World} {g off cap:Nat} (l:List UInt8) (h:∀ j b,l[j]? = some b→w.cell? ⟨g,off+j,none⟩=some (.int .u8 b.toNat)) (src e dst:TypeId)
 (hs:Tryz.prog.underlying src=some (.slice e)) (he:Tryz.prog.underlying e=some (.int .u8)) (hd:Tryz.prog.underlying dst=some .string) (len:Nat) (hl:l.length=len) :
 (convert src dst (.slice (some ⟨g,off,none⟩) len cap)).run Tryz.prog w=.ok (.string ⟨l.toArray⟩) w:=by
 have hr:=run_convert_bytes_arg (P:=Tryz.prog) w src e hs he g off len cap (l.map fun b=>(b.toNat:Int)) (by simp [hl]) (fun i hi=>by
  rw [h i l[i] (List.getElem?_eq_getElem (by omega))]
  simp [List.getD,hl,hi]) dst hd
 rw [hr]
 congr 2
 unfold strOfNums
 rw [List.map_map]
 congr 2
 conv=>rhs; rw [← List.map_id l]
 congr 1
 funext b
 simp
theorem conv_owned {w:World} {base g n cap e:Nat} (l:List UInt8) (h:w.ownsRow base e 1 (.slice (some ⟨g,0,none⟩) n cap) n (bytesV l).toList) (src dst:TypeId)
 (hs:Tryz.prog.underlying src=some (.slice e)) (he:Tryz.prog.underlying e=some (.int .u8)) (hd:Tryz.prog.underlying dst=some .string) :
 (convert src dst (.slice (some ⟨g,0,none⟩) n cap)).run Tryz.prog w=.ok (.string ⟨l.toArray⟩) w:=by
 refine conv_cells l (fun j b hj=>?_) src e dst hs he hd n (by have:=h.1; simp [bytesV] at this; exact this)
 have:=h.cells (g:=g) rfl j (.int .u8 b.toNat) (by simp [bytesV,hj])
 have hadd:(⟨g,0,none⟩:Addr).add j=⟨g,0+j,none⟩:=by unfold Addr.add; split <;> simp_all
 rwa [hadd] at this
theorem getD_at (s:ByteArray) (i:Nat) (h:i < s.size):s.data.toList.getD i 0=s[i]:=by
 rw [List.getD_eq_getElem?_getD,List.getElem?_eq_getElem (by simpa using h)]
 rfl
end Go.Proofs.YthkbcfhjmnpggaaGreat

namespace Go.Proofs.YthkbcfhjmnpggaaGreat
open Go.RowKit
def Elems (w:World) (v:Value) (n:Nat) (xs:List Value):Prop :=
 ∃ (a:Option Addr) (cap:Nat),v=.slice a n cap∧n≤cap∧cap≤maxLen∧∀ j x,xs[j]? = some x→∃ b off,a=some ⟨b,off,none⟩∧w.cell? ⟨b,off+j,none⟩=some x
namespace Elems
variable {w w':World} {v:Value} {n:Nat} {xs:List Value}
theorem nil (w:World):Elems w (.slice none 0 0) 0 []:=⟨none,0,rfl,Nat.le_refl _,Nat.zero_le _,fun j x h=>by simp at h⟩
theorem form (h:Elems w v n xs):∃ a cap,v=.slice a n cap:=let ⟨a,cap,h,_⟩:=h; ⟨a,cap,h⟩
theorem le (h:Elems w v n xs):n≤maxLen:=let ⟨_,_,_,h1,h2,_⟩:=h; Nat.le_trans h1 h2
theorem keepS (h:Elems w v n xs) {S:Nat→Prop} (hb:Only S w w') (hS:xs≠[]→∀ b,v.ownBlock=some b→¬ S b):Elems w' v n xs:=by
 obtain ⟨a,cap,rfl,h1,h2,hx⟩:=h
 refine ⟨a,cap,rfl,h1,h2,fun j x hj=>?_⟩
 obtain ⟨b,off,rfl,h⟩:=hx j x hj
 refine ⟨b,off,rfl,?_⟩
 have e:=hb.block b (World.block_lt_of_cell? w ⟨b,off+j,none⟩ h) (hS (by rintro rfl; simp at hj) b rfl)
 rw [← h]
 unfold World.cell?
 simp only [e]
theorem keep (h:Elems w v n xs) (hb:Below w.heap.size w w'):Elems w' v n xs:=h.keepS (S:=fun _=>False) (.ofBelow hb) fun _ _ _=>id
theorem cases {n:Nat} (h:Elems w v n xs) (hx:xs≠[]):∃ b off cap,v=.slice (some ⟨b,off,none⟩) n cap∧n≤cap∧cap≤maxLen∧b < w.heap.size∧∀ j x,xs[j]? = some x→w.cell? ⟨b,off+j,none⟩=some x:=by
 obtain ⟨a,cap,rfl,hc,hm,h⟩:=h
 cases xs with
 | nil=>exact absurd rfl hx
 | cons y ys =>
   obtain ⟨b,off,rfl,h0⟩:=h 0 y rfl
   refine ⟨b,off,cap,rfl,hc,hm,World.block_lt_of_cell? w ⟨b,off+0,none⟩ h0,fun j x hj=>?_⟩
   obtain ⟨b',off',e,h⟩:=h j x hj
   simp only [Option.some.injEq,Addr.mk.injEq,and_true] at e
   obtain ⟨rfl,rfl⟩:=e
   exact h
theorem ofOwn {base e size:Nat} (h:w.ownsRow base e size v n xs):Elems w v n xs:=by
 rcases own_any h with ⟨rfl,rfl,rfl⟩ | ⟨g,cap,rfl,h1,h2⟩
 · exact nil w
 ·refine ⟨_,cap,rfl,h1,h2,fun j x hj=>⟨g,0,rfl,?_⟩⟩
  have:=h.cells (g:=g) rfl j x hj
  rwa [show ((⟨g,0,none⟩:Addr).add j)=⟨g,0+j,none⟩ from by unfold Addr.add; split <;> simp_all] at this
end Elems
def cells3 (x:Row3):List Value:=[.int .i64 x.1,.int .i64 x.2.1,.int .i64 x.2.2]
def cells2 (x:Row2):List Value:=[.int .i64 x.1,.int .i64 x.2]
def rows3 (l:List Row3):List Value:=l.flatMap cells3
def rows2 (l:List Row2):List Value:=l.flatMap cells2
theorem rows3_len (l:List Row3):(rows3 l).length=l.length*3:=by
 induction l with
 | nil=>rfl
 | cons x l ih=>show (cells3 x++rows3 l).length=_; simp [cells3,ih]; omega
theorem rows2_len (l:List Row2):(rows2 l).length=l.length*2:=by
 induction l with
 | nil=>rfl
 | cons x l ih=>show (cells2 x++rows2 l).length=_; simp [cells2,ih]; omega
theorem rows3_snoc (l:List Row3) (x:Row3):rows3 (l++[x])=rows3 l++cells3 x:=by simp [rows3]
theorem rows2_snoc (l:List Row2) (x:Row2):rows2 (l++[x])=rows2 l++cells2 x:=by simp [rows2]
theorem rows3_at (l:List Row3) (j:Nat) (h:j < l.length):(rows3 l)[j*3]? = some (.int .i64 l[j].1)∧(rows3 l)[j*3+1]? = some (.int .i64 l[j].2.1)∧(rows3 l)[j*3+2]? = some (.int .i64 l[j].2.2):=by
 induction l generalizing j with
 | nil=>simp at h
 | cons x l ih =>
   have e:rows3 (x::l)=.int .i64 x.1::.int .i64 x.2.1::.int .i64 x.2.2::rows3 l:=rfl
   cases j with
   | zero=>simp [e]
   | succ j =>
     have:=ih j (by simpa using h)
     rw [e,show (j+1)*3=j*3+1+1+1 by omega]
     exact this
theorem rows2_at (l:List Row2) (j:Nat) (h:j < l.length):(rows2 l)[j*2]? = some (.int .i64 l[j].1)∧(rows2 l)[j*2+1]? = some (.int .i64 l[j].2):=by
 induction l generalizing j with
 | nil=>simp at h
 | cons x l ih =>
   have e:rows2 (x::l)=.int .i64 x.1::.int .i64 x.2::rows2 l:=rfl
   cases j with
   | zero=>simp [e]
   | succ j =>
     have:=ih j (by simpa using h)
     rw [e,show (j+1)*2=j*2+1+1 by omega]
     exact this
theorem Elems.at3 {w:World} {v:Value} {l:List Row3} (h:Elems w v l.length (rows3 l)) (hl:l≠[]):∃ b off cap,v=.slice (some ⟨b,off,none⟩) l.length cap∧l.length≤cap∧cap≤maxLen∧b < w.heap.size ∧
 ∀ j (hj:j < l.length),w.cell? ⟨b,off+j*3,none⟩=some (.int .i64 l[j].1)∧w.cell? ⟨b,off+j*3+1,none⟩=some (.int .i64 l[j].2.1)∧w.cell? ⟨b,off+j*3+2,none⟩=some (.int .i64 l[j].2.2):=by
 obtain ⟨b,off,cap,e,h1,h2,h3,h4⟩:=h.cases (by cases l with | nil=>exact absurd rfl hl | cons x l=>exact fun e=>by cases e)
 refine ⟨b,off,cap,e,h1,h2,h3,fun j hj=>?_⟩
 obtain ⟨e0,e1,e2⟩:=rows3_at l j hj
 exact ⟨h4 _ _ e0,h4 _ _ e1,h4 _ _ e2⟩
theorem Elems.at2 {w:World} {v:Value} {l:List Row2} (h:Elems w v l.length (rows2 l)) (hl:l≠[]):∃ b off cap,v=.slice (some ⟨b,off,none⟩) l.length cap∧l.length≤cap∧cap≤maxLen∧b < w.heap.size ∧
 ∀ j (hj:j < l.length),w.cell? ⟨b,off+j*2,none⟩=some (.int .i64 l[j].1)∧w.cell? ⟨b,off+j*2+1,none⟩=some (.int .i64 l[j].2):=by
 obtain ⟨b,off,cap,e,h1,h2,h3,h4⟩:=h.cases (by cases l with | nil=>exact absurd rfl hl | cons x l=>exact fun e=>by cases e)
 refine ⟨b,off,cap,e,h1,h2,h3,fun j hj=>?_⟩
 obtain ⟨e0,e1⟩:=rows2_at l j hj
 exact ⟨h4 _ _ e0,h4 _ _ e1⟩
def recCells (r:Rc) (vt vp:Value):Array Value :=
 #[.int .i64 r.kind,.int .i64 r.txn,.int .i64 r.page,.int .i64 r.off,.int .i64 r.prev,.int .i64 r.next,.int .i64 r.beg,.string r.before,.string r.after,vt,vp]
def recV (r:Rc) (vt vp:Value):Value:=.agg (recCells r vt vp)
structure Lists (w:World) (r:Rc) (vt vp:Value):Prop where
 t:Elems w vt r.txns.length (rows3 r.txns)
 p:Elems w vp r.pages.length (rows2 r.pages)
theorem own_only {S:Nat→Prop} {w w':World} {base size n:Nat} {e:TypeId} {v:Value} {xs:List Value} (h:w.ownsRow base e size v n xs) (hb:Only S w w') (hS:∀ b,v.ownBlock=some b→¬ S b):w'.ownsRow base e size v n xs :=
 own_keep h fun b hv=>hb.block b (h.lt b hv).2 (hS b hv)
theorem Lists.keep {w w':World} {r:Rc} {vt vp:Value} (h:Lists w r vt vp) (hb:Below w.heap.size w w'):Lists w' r vt vp:=⟨h.t.keep hb,h.p.keep hb⟩
theorem Lists.keepS {S:Nat→Prop} {w w':World} {r:Rc} {vt vp:Value} (h:Lists w r vt vp) (hb:Only S w w') (ht:∀ b,vt.ownBlock=some b→¬ S b) (hp:∀ b,vp.ownBlock=some b→¬ S b):Lists w' r vt vp :=
 ⟨h.t.keepS hb fun _=>ht,h.p.keepS hb fun _=>hp⟩
theorem Lists.nil (w:World) (r:Rc) (ht:r.txns = []) (hp:r.pages = []):Lists w r (.slice none 0 0) (.slice none 0 0):=⟨by rw [ht]; exact Elems.nil w,by rw [hp]; exact Elems.nil w⟩
theorem Lists.one {w:World} {r:Rc} {vt vp:Value} (h:Lists w r vt vp):(recCells r vt vp).all (·.oneCell')=true:=by
 obtain ⟨a,c,e⟩:=h.t.form
 obtain ⟨a',c',e'⟩:=h.p.form
 subst e e'
 simp [recCells,Value.oneCell']
theorem recCells_size (r:Rc) (vt vp:Value):(recCells r vt vp).size=11:=rfl
def New (w:World) (v:Value):Prop:=∀ b,v.ownBlock=some b→w.heap.size≤b
theorem New.nil (w:World):New w (.slice none 0 0):=fun b h=>by cases h
theorem New.mono {w w':World} {v:Value} (h:New w' v) (hs:w.heap.size≤w'.heap.size):New w v:=fun b hb=>Nat.le_trans hs (h b hb)
theorem New.own {w w':World} {base size n:Nat} {e:TypeId} {v:Value} {xs:List Value} (h:w'.ownsRow base e size v n xs) (hb:w.heap.size≤base):New w v:=fun b hv=>Nat.le_trans hb (h.lt b hv).1
def IsRec (w:World) (v:Value) (r:Rc):Prop:=∃ vt vp,v=recV r vt vp∧Lists w r vt vp
theorem IsRec.keep {w w':World} {v:Value} {r:Rc} (h:IsRec w v r) (hb:Below w.heap.size w w'):IsRec w' v r:=let ⟨vt,vp,e,l⟩:=h; ⟨vt,vp,e,l.keep hb⟩
end Go.Proofs.YthkbcfhjmnpggaaGreat

namespace Go.Proofs.YthkbcfhjmnpggaaGreat
open Go.RowKit
set_option maxRecDepth 100000 in
set_option maxHeartbeats 2000000 in
theorem clone_any (s:ByteArray) (w:World) (hl:s.size≤281474976710656) :
 Calls Tryz.prog 119 #[.string s] w fun e w'=>e=.returned (.string s)∧Below w.heap.size w w':=by
 by_cases h0:s.size=0
 ·obtain rfl:s=⟨#[]⟩:=by
   apply ByteArray.ext
   exact Array.eq_empty_of_size_eq_zero h0
  go_enter Tryz.func119,Tryz.ntmps119
  go_wp2
  go_ret
  exact ⟨rfl,Below.refl _ _⟩
 ·obtain ⟨i,hi,hz,hs1,hs2⟩:∃ i,Tryz.prog.info? 5=some i∧i.zero=some (.int .u8 0)∧i.size=1∧i.bytes=1:=by
   have h:(Tryz.prog.info? 5).map (fun i=>(i.zero,i.size,i.bytes))=some (some (.int .u8 0),1,1):=by kernel_rfl
   obtain ⟨i,hi,he⟩:=Option.map_eq_some_iff.1 h
   simp only [Prod.mk.injEq] at he
   exact ⟨i,hi,he.1,he.2.1,he.2.2⟩
  obtain ⟨M,hM⟩:∃ M,M=madeCells (Value.int .u8 0).cells (((s.size:Nat):Int).toNat*i.size):=⟨_,rfl⟩
  have hMs:M.size=s.size:=by rw [hM,size_madeCells,hs1]; simp
  have hmk:∀ W:World,(Instr.makeSlice 47 (.int .i64 (s.size:Int)) (.int .i64 (s.size:Int))).run Tryz.prog W=.ok (.slice (some ⟨W.heap.size,0,none⟩) s.size s.size) (W.alloc (.cells M 5)):=fun W=>by
   have h:=run_make (P:=Tryz.prog) W 47 5 i (.int .u8 0) Tryz.underlying47 hi hz .i64 .i64 (s.size:Int) (s.size:Int) (by omega) (by omega) (by rw [hs2]; omega) (by omega)
   rw [← hM] at h
   simpa using h
  clear hM
  have hnew:=Blk.new w 5 M
  have hcp:=Lib.run_copy_row_string (P:=Tryz.prog) (w.alloc (.cells M 5)) 47 9 3 5 w.heap.size 0 s.size s.size s M 5 Tryz.underlying47 info_u8 hnew (Nat.le_refl _) (by omega)
  have eY:(M.toList.take 0++Lib.byteCells s.data.toList++M.toList.drop (0+s.size)).toArray=bytesV s.data.toList:=by
   rw [List.take_zero,List.nil_append,List.drop_of_length_le (by rw [Array.length_toList]; omega),List.append_nil]
   rfl
  rw [eY] at hcp
  have hrow:=hnew.setRow (bytesV s.data.toList)
  have hne:s.data.toList≠[]:=fun e=>h0 (by rw [← size_bytes,e]; rfl)
  have hus:=Lib.run_unsafeString_row (P:=Tryz.prog) ((w.alloc (.cells M 5)).setRow w.heap.size (bytesV s.data.toList)) 188 3 9 5 Tryz.underlying188 (by kernel_rfl) w.heap.size (bytesV s.data.toList).size
   (by unfold World.shape?; rw [show ((w.alloc (.cells M 5)).setRow w.heap.size (bytesV s.data.toList)).heap[w.heap.size]? = _ from hrow]) s.data.toList hne (by rw [bytesV_size]; omega) (by rw [size_bytes]; omega)
   (fun j x hx=>by
     rw [show ((⟨w.heap.size,0,none⟩:Addr).add j)=⟨w.heap.size,j,none⟩ from by unfold Addr.add; split <;> simp_all,hrow.cell]
     simp [bytesV,hx])
  rw [size_bytes] at hus
  clear eY hMs hnew
  have hb:Below w.heap.size w (((w.alloc (.cells M 5)).setRow w.heap.size (bytesV s.data.toList)).freeze ⟨w.heap.size,0,none⟩ s.size) :=
   Lib.below_freeze (below_setRow ((Below.refl _ _).alloc (Nat.le_refl _) _) (Nat.le_refl _) _) (Nat.le_refl _) _
  have hB:=Lib.hid hb
  clear hb hrow
  go_enter Tryz.func119,Tryz.ntmps119
  go_wp2
  go_ret
  exact ⟨rfl,hB.out⟩
theorem cloneS_any (s:ByteArray) (w:World) (hl:s.size≤281474976710656) :
 Calls Tryz.prog 93 #[.string s] w fun e w'=>e=.returned (.string s)∧Below w.heap.size w w':=by
 go_enter Tryz.func93,Tryz.ntmps93
 go_wp2_with fail
 refine (clone_any s _ hl).mono ?_
 rintro e w1 ⟨rfl,hb⟩
 go_wp2
 go_ret
 exact ⟨rfl,hb⟩
end Go.Proofs.YthkbcfhjmnpggaaGreat

namespace Go.Proofs.YthkbcfhjmnpggaaGreat
open Go.RowKit
theorem or_u32 (a b:Nat) (ha:a < 16777216) (hb:b < 256):bits .or .u32 ((a:Int)*256 % 4294967296) (b:Int)=((a*256+b:Nat):Int):=by
 have h:=u32_or_nat (a*256) b (by omega) (by omega)
 rw [show (a:Int)*256 % 4294967296=((a*256:Nat):Int) from by omega,h]
 congr 1
 have:=Nat.shiftLeft_add_eq_or_of_lt (b:=b) (i:=8) (by omega) a
 rw [Nat.shiftLeft_eq] at this
 exact this.symm
theorem or_be (a b c d:Nat) (ha:a < 256) (hb:b < 256) (hc:c < 256) (hd:d < 256) :
 bits .or .u32 (bits .or .u32 (bits .or .u32 (bits .or .u32 0 (a:Int)*256 % 4294967296) (b:Int)*256 % 4294967296) (c:Int)*256 % 4294967296) (d:Int)=((a*16777216+b*65536+c*256+d:Nat):Int):=by
 have h0:bits .or .u32 0 (a:Int)=(a:Int):=by
  have:=u32_or_nat 0 a (by omega) (by omega)
  simpa using this
 rw [h0,or_u32 a b (by omega) hb,or_u32 _ c (by omega) hc,or_u32 _ d (by omega) hd]
 omega
def num4 (l:List UInt8):Nat:=(l.getD 0 0).toNat*16777216+(l.getD 1 0).toNat*65536+(l.getD 2 0).toNat*256+(l.getD 3 0).toNat
theorem set4 (l:List UInt8) (o:Nat) (a b c d:UInt8) (h:o+4≤l.length) :
 (((l.set o a).set (o+1) b).set (o+2) c).set (o+3) d=splice l o [a,b,c,d]:=by
 rw [splice_cons _ _ _ _ (by omega),splice_cons _ _ _ _ (by simp; omega),splice_cons _ _ _ _ (by simp; omega),splice_cons _ _ _ _ (by simp; omega),splice_nil]
theorem num4_be4 (n:Nat) (h:n < 4294967296) (l:List UInt8):num4 (be4 n++l)=n:=by
 unfold num4 be4
 simp [List.getD_eq_getElem?_getD]
 omega
end Go.Proofs.YthkbcfhjmnpggaaGreat
