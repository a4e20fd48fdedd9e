/- Texts that belong together, joined: WalE, WalF, WalD. -/
import Derived.Test.YthkbcfhjmnpggaaGreatK15
import Derived.Test.YthkbcfhjmnpggaaGreatK10
import Derived.Test.YthkbcfhjmnpggaaGreatK14
import Derived.WalkMore
namespace Go.Proofs.YthkbcfhjmnpggaaGreat
open Go.RowKit
section
variable {w:World} {FD FL:Foot} {g gd:Nat} {D:Dk} {l:Wl}
set_option maxRecDepth 100000 in
set_option maxHeartbeats 2000000 in
theorem logNew_ok (h:IsDisk w FD gd D) (base n:Nat) (h8:8≤n) (h64:n≤64) (hb:base+n≤D.safe.length) :
 Calls Tryz.prog 6 #[.pointer (some ⟨gd,0,none⟩),.int .i64 base,.int .i64 n] w fun e w'=>∃ g,e=.returned (.tuple #[.pointer (some ⟨g,0,none⟩),.int .i64 0])∧IsLog w' (· = g) g gd (Wl.new base n)∧w.heap.size≤g∧Below w.heap.size w w':=by
 have H1:=Lib.hid (size_any h)
 have hs:=h.1.le
 have hok:=Wl.Ok.new h8 h64 (by omega:base+n≤512)
 have HOK:=Lib.hid hok
 have a8:(8:Int)≤n:=by omega
 have a64:(n:Int)≤64:=by omega
 have a0:(base:Int)≤512:=by omega
 have a5:(D.safe.length:Int)≤512:=by omega
 have hcmp:(base:Int)≤(D.safe.length:Int) - n:=by omega
 have t1:decide ((n:Int) < 8)=false:=by simp; omega
 have t2:decide ((64:Int) < n)=false:=by simp; omega
 have t3:decide ((base:Int) < 0)=false:=by simp
 clear h hok h8 h64 hb hs
 generalize D.safe.length=m at *
 go_enter Tryz.func6,Tryz.ntmps6
 go_wp2_with fail
 refine H1.out.mono ?_
 rintro e w1 ⟨rfl,rfl⟩
 go_wp2
 go_ret2
 refine ⟨w.heap.size,rfl,⟨HOK.out,.slice none 0 0,?_⟩,Nat.le_refl _,(Below.refl _ _).alloc (Nat.le_refl _) _⟩
 exact ⟨Blk.new w 91 (logCells gd (Wl.new base n) (.slice none 0 0)),World.ownsRow_nil _ _ _ _,rfl,fun b hb=>by simp [Value.ownBlock] at hb,fun b hb=>by subst hb; simp⟩
abbrev Slab3:=Nat × Nat × ByteArray
open Classical in
noncomputable def slab3 (s:ByteArray):Slab3:=if IsSlab s then (partE s,partI s,partB s) else (0,0,⟨#[]⟩)
def slabCells (x:Slab3):List Value:=[.int .u32 x.1,.int .u32 x.2.1,.string x.2.2]
def slabsV (l:List Slab3):List Value:=l.flatMap slabCells
theorem slabsV_len (l:List Slab3):(slabsV l).length=l.length*3:=by
 induction l with
 | nil=>rfl
 | cons x l ih=>show (slabCells x++slabsV l).length=_; rw [List.length_append,ih,List.length_cons]; simp [slabCells]; omega
theorem slabsV_at (l:List Slab3) (j:Nat) (h:j < l.length):(slabsV l)[j*3]? = some (.int .u32 l[j].1)∧(slabsV l)[j*3+1]? = some (.int .u32 l[j].2.1)∧(slabsV l)[j*3+2]? = some (.string l[j].2.2):=by
 induction l generalizing j with
 | nil=>simp at h
 | cons x l ih =>
   have e:slabsV (x::l)=.int .u32 x.1::.int .u32 x.2.1::.string x.2.2::slabsV l:=rfl
   cases j with
   | zero=>simp [e]
   | succ j =>
     have:=ih j (by simpa using h)
     rw [e,show (j+1)*3=j*3+1+1+1 by omega]
     exact this
theorem unpack_any (s:ByteArray) (w:World):Calls Tryz.prog 84 #[.string s] w fun e w'=>∃ er:Int,e=.returned (.tuple #[.agg #[.int .u32 (slab3 s).1,.int .u32 (slab3 s).2.1,.string (slab3 s).2.2],.int .i64 er])∧Below w.heap.size w w':=by
 unfold slab3
 by_cases h:IsSlab s
 ·rw [if_pos h]
  exact (unpackYes_c s w h).mono fun _ _ ⟨h1,h2⟩=>⟨0,h1,h2⟩
 ·rw [if_neg h]
  exact (unpackNo_c s w h).mono fun _ _ ⟨h1,h2⟩=>⟨8,h1,h2⟩
theorem info_slab:(Tryz.prog.info? 105).map (fun i=>(i.zero,i.size,i.bytes))=some (some (.agg #[.int .u32 0,.int .u32 0,.string ⟨#[]⟩]),3,24):=by kernel_rfl
noncomputable def ringOf (l:Wl) (D:Dk) (k:Nat):List Slab3:=(List.range k).map fun i=>slab3 (D.at_ (l.place (l.low+i):Nat))
def noSlabs (n:Nat):List Slab3:=List.replicate n (0,0,⟨#[]⟩)
theorem made3 (a b c:Value) (n:Nat):(madeCells #[a,b,c] (n*3)).toList=(List.replicate n [a,b,c]).flatten:=by
 induction n with
 | zero=>simp [madeCells]
 | succ n ih =>
   rw [List.replicate_succ',List.flatten_append,← ih]
   simp only [madeCells,Array.toList_map,Array.toList_range]
   rw [show (n+1)*3=n*3+1+1+1 by omega,List.range_succ,List.range_succ,List.range_succ]
   simp only [List.map_append,List.map_cons,List.map_nil,List.append_assoc]
   congr 1
   have e0:n*3 % 3=0:=by omega
   have e1:(n*3+1) % 3=1:=by omega
   have e2:(n*3+1+1) % 3=2:=by omega
   simp [e0,e1,e2]
theorem slabsV_set:∀ (L:List Slab3) (j:Nat) (_:j < L.length) (x:Slab3),(((slabsV L).set (j*3) (.int .u32 x.1)).set (j*3+1) (.int .u32 x.2.1)).set (j*3+2) (.string x.2.2)=slabsV (L.set j x)
 | [],j,h,_=>by simp at h
 | y::L,0,_,x=>rfl
 | y::L,j+1,h,x=>by
   have e:slabsV (y::L)=.int .u32 y.1::.int .u32 y.2.1::.string y.2.2::slabsV L:=rfl
   have e2:slabsV ((y::L).set (j+1) x)=.int .u32 y.1::.int .u32 y.2.1::.string y.2.2::slabsV (L.set j x):=rfl
   rw [e,e2,← slabsV_set L j (by simpa using h) x,show (j+1)*3=j*3+1+1+1 by omega]
   rfl
theorem ring_next (l:Wl) (D:Dk) (k n:Nat) (h:k < n):(ringOf l D k++noSlabs (n - k)).set k (slab3 (D.at_ (l.place (l.low+k):Nat)))=ringOf l D (k+1)++noSlabs (n - (k+1)):=by
 have e:noSlabs (n - k)=(0,0,⟨#[]⟩)::noSlabs (n - (k+1)):=by unfold noSlabs; rw [show n - k=(n - (k+1))+1 by omega,List.replicate_succ]
 have hl:(ringOf l D k).length=k:=by simp [ringOf]
 rw [e,List.set_append_right _ _ (by omega),hl,Nat.sub_self,List.set_cons_zero]
 unfold ringOf
 rw [List.range_succ]
 simp
theorem ring_len (l:Wl) (D:Dk) (k n:Nat) (h:k≤n):(ringOf l D k++noSlabs (n - k)).length=n:=by simp [ringOf,noSlabs]; omega
set_option maxRecDepth 100000 in
set_option maxHeartbeats 8000000 in
theorem slabs_any (hdk:IsDisk w FD gd D) (hlg:IsLog0 w FL g gd l) (hg:D.gone=false) (hb:l.base+l.size≤D.safe.length) :
 Calls Tryz.prog 56 #[.pointer (some ⟨g,0,none⟩)] w fun e w'=>∃ v,e=.returned v∧w'.ownsRow w.heap.size 105 3 v l.size (slabsV (ringOf l D l.size))∧Below w.heap.size w w':=by
 have HD:=Lib.hid hdk
 have HL:=Lib.hid hlg
 obtain ⟨o8,o64,_,olm⟩:=hlg.1
 have h64:(l.size:Int)≤64:=by omega
 have h8:(8:Int)≤l.size:=by omega
 have hlm:(l.low:Int)≤2147483647:=by omega
 have c2:=hlg.cells.2.2.1
 obtain ⟨i0,hi,hz,hs1,hs2⟩:=info_parts info_slab
 have hmk:∀ W:World,(Instr.makeSlice 116 (.int .i64 l.size) (.int .i64 l.size)).run Tryz.prog W=.ok (.slice (some ⟨W.heap.size,0,none⟩) l.size l.size) (W.alloc (.cells (slabsV (noSlabs l.size)).toArray 105)):=fun W=>by
  have h:=run_make (P:=Tryz.prog) W 116 105 i0 _ Tryz.underlying116 hi hz .i64 .i64 l.size l.size (by omega) (by omega) (by rw [hs2]; omega) (by omega)
  have e:madeCells (Value.agg #[.int .u32 0,.int .u32 0,.string ⟨#[]⟩]).cells ((l.size:Int).toNat*i0.size)=(slabsV (noSlabs l.size)).toArray:=by
   rw [hs1]
   apply Array.ext'
   rw [show (Value.agg #[.int .u32 0,.int .u32 0,.string ⟨#[]⟩]).cells=#[Value.int .u32 0,.int .u32 0,.string ⟨#[]⟩] from rfl,Int.toNat_natCast,made3]
   simp [slabsV,noSlabs,List.flatMap,slabCells]
  rw [e] at h
  simpa using h
 clear hdk hlg o8 o64 olm
 generalize hsz:l.size=n at *
 have HSZ:=Lib.hid hsz
 clear hsz
 go_enter Tryz.func56,Tryz.ntmps56
 go_wp2_with fail
 have b0:=Blk.new w 105 (slabsV (noSlabs n)).toArray
 have B0:=Lib.hid b0
 clear b0
 go_loopw [14] (fun vk wr=>∃ k:Nat,k≤n∧vk=.int .i64 k∧Blk wr w.heap.size 105 (slabsV (ringOf l D k++noSlabs (n - k))).toArray∧Below w.heap.size w wr) (fun vk _=>n - (intOf vk).toNat)
 case atStart=>exact ⟨0,Nat.zero_le _,rfl,B0.out,(Below.refl _ _).alloc (Nat.le_refl _) _⟩
 case round =>
  obtain ⟨k,hk,rfl,hbk,hB⟩:=hrel
  by_cases hlt:k < n
  ·have HB:=Lib.hid hB
   have BK:=Lib.hid hbk
   have hlt2:k < l.size:=by rw [HSZ.out]; exact hlt
   have PL:Hid (∀ W,Below wr.heap.size wr W→Calls Tryz.prog 76 #[.pointer (some ⟨g,0,none⟩),.int .i64 ((l.low+k:Nat):Int)] W (Peeks W (.int .i64 (l.place (l.low+k):Nat)))):=fun W hW=>place_any ((HL.out.below HB.out).below hW) (l.low+k) (by omega)
   have hre:D.reachE (l.place (l.low+k):Nat)=0:=by
    unfold Dk.reachE
    rw [if_neg (by rw [hg]; decide),if_pos]
    refine ⟨by omega,?_⟩
    have:(l.low+k) % l.size < l.size:=Nat.mod_lt _ (by omega)
    unfold Wl.place
    rw [HSZ.out] at this ⊢
    omega
   have RD:Hid (∀ W,Below wr.heap.size wr W→Calls Tryz.prog 83 #[.pointer (some ⟨gd,0,none⟩),.int .i64 (l.place (l.low+k):Nat)] W fun e w'=>e=.returned (.tuple #[.string (D.at_ (l.place (l.low+k):Nat)),.int .i64 0])∧Below W.heap.size W w'):=fun W hW=>by
    have:=read_any ((HD.out.below HB.out).below hW) (l.place (l.low+k):Nat)
    rw [hre] at this
    unfold Dk.read at this
    rw [if_pos hre] at this
    exact this
   have CELLS:Hid (∀ W,Below wr.heap.size wr W→W.cell? ⟨g,0,none⟩=some (.pointer (some ⟨gd,0,none⟩))∧W.cell? ⟨g,4,none⟩=some (.int .i64 l.low)):=fun W hW =>
    ⟨((HL.out.below HB.out).below hW).cells.1,((HL.out.below HB.out).below hW).cells.2.2.2⟩
   have hcast:((l.low+k:Nat):Int)=(l.low:Int)+(k:Int):=by omega
   rw [hcast] at PL
   have hsum:(l.low:Int)+(k:Int)≤2147483711:=by omega
   have hkn:(k:Int) < n:=by omega
   have UN:=Lib.hid (fun W=>unpack_any (D.at_ (l.place (l.low+k):Nat)) W)
   have hnext:=ring_next l D k n hlt
   have HNEXT:=Lib.hid hnext
   clear hre hbk hB hcast hnext
   generalize D.at_ (l.place (l.low+k):Nat)=sct at *
   generalize l.place (l.low+k)=p at *
   generalize l.low=lo at *
   go_wp2_with fail
   refine' wp_region_conf 18 (.is _::.is _::.is _::.is _::.is _::.is _::.is _::.is _::.is _::.is _::.is _::.is _::.is _::.is _::.is _::.is _::.is _::.is _::[]) (by kernel_rfl) (by kernel_rfl) (by kernel_rfl) (by kernel_rfl) rfl ?main
   case main =>
    iterate 18
     refine obs_is (fun w4 hE4 _=>?_) ?_
     ·have hb4:=(Below.refl wr.heap.size wr).drew.trans hE4
      obtain ⟨d0,d4⟩:=CELLS.out w4 hb4
      go_wp2_with (first
       | (go_at_call 76; refine (PL.out _ hb4).mono ?_; rintro e w5 ⟨rfl,nq,rfl⟩)
       | (go_at_call 83; refine (RD.out _ hb4).mono ?_; rintro e w5 ⟨rfl,hb5⟩))
      first | exact post_is hb5 | exact post_is (drewN_below _ _) | exact post_is (Below.refl _ _)
     simp only [Act.put,sA,sB,sC]
    refine obs_end fun w6 hE6 _=>?_
    have HB6:=Lib.hid ((Below.refl wr.heap.size wr).drew.trans hE6)
    clear hE6
    change wpList _ _ _ _ _ _
    go_wp2_with fail
    refine (UN.out _).mono ?_
    rintro e w7 ⟨er,rfl,hb7⟩
    have hb67:=HB6.out.trans (hb7.mono HB6.out.size)
    have b7:=BK.out.keep hb67 BK.out.lt
    have hkl:k < (ringOf l D k++noSlabs (n - k)).length:=by rw [ring_len l D k n (by omega)]; exact hlt
    obtain ⟨e0,e1,e2⟩:=slabsV_at _ k hkl
    have hth:w7.there w.heap.size (k*3) 3:=fun j hj=>by
     refine ⟨?_,b7.frozen _⟩
     rcases (show j=0∨j=1∨j=2 by omega) with rfl | rfl | rfl
     ·show (w7.cell? ⟨w.heap.size,k*3,none⟩).isSome=true
      rw [b7.cell,List.getElem?_toArray,e0]; rfl
     ·show (w7.cell? ⟨w.heap.size,k*3+1,none⟩).isSome=true
      rw [b7.cell,List.getElem?_toArray,e1]; rfl
     ·show (w7.cell? ⟨w.heap.size,k*3+2,none⟩).isSome=true
      rw [b7.cell,List.getElem?_toArray,e2]; rfl
    have n7:=((b7.set (k*3) (.int .u32 (slab3 sct).1)).set (k*3+1) (.int .u32 (slab3 sct).2.1)).set (k*3+2) (.string (slab3 sct).2.2)
    rw [List.setIfInBounds_toArray,List.setIfInBounds_toArray,List.setIfInBounds_toArray,slabsV_set _ k hkl,HNEXT.out] at n7
    have N7:=Lib.hid n7
    have hB7:=(((HB.out.trans (hb67.mono HB.out.size)).setCell (p:=⟨w.heap.size,k*3,none⟩) (Nat.le_refl _) (.int .u32 (slab3 sct).1)).setCell (p:=⟨w.heap.size,k*3+1,none⟩) (Nat.le_refl _) (.int .u32 (slab3 sct).2.1)).setCell (p:=⟨w.heap.size,k*3+2,none⟩) (Nat.le_refl _) (.string (slab3 sct).2.2)
    have B7:=Lib.hid hB7
    clear n7 hB7 hb67 hb7 e0 e1 e2 b7 hkl HB6 BK HB
    generalize slab3 sct=x at *
    go_wp2_with (refine wpList_store_mid rfl 105 _ _ rfl w.heap.size (k*3) #[.int .u32 x.1,.int .u32 x.2.1,.string x.2.2] rfl rfl hth (by kernel_rfl) (by simp [Value.oneCell']) ?_)
    go_roundw
    case rel=>exact ⟨k+1,by omega,by go_num,N7.out,B7.out⟩
    case measure=>simp [intOf]; omega
  ·obtain rfl:k=n:=by omega
   rw [Nat.sub_self,show noSlabs 0 = [] from rfl,List.append_nil] at hbk
   have hlen:(ringOf l D k).length=k:=by simp [ringOf]
   have hown:wr.ownsRow w.heap.size 105 3 (.slice (some ⟨w.heap.size,0,none⟩) k k) k (slabsV (ringOf l D k)) :=
    ⟨by rw [slabsV_len,hlen],.inr ⟨w.heap.size,k,_,rfl,Nat.le_refl _,hbk,Nat.le_refl _,by unfold maxLen; omega,by rw [List.size_toArray,slabsV_len,hlen],by rw [List.take_of_length_le (by rw [slabsV_len,hlen]; exact Nat.le_refl _)]⟩⟩
   have HO:=Lib.hid hown
   have HB:=Lib.hid hB
   clear hown hB hbk hlen
   go_wp2
   go_ret
   exact ⟨_,rfl,HO.out,HB.out⟩
end
end Go.Proofs.YthkbcfhjmnpggaaGreat

namespace Go.Proofs.YthkbcfhjmnpggaaGreat
open Go.RowKit
def wholeP:Nat→Nat→List Slab3→List ByteArray
 | _,_,[]=>[]
 | a,i,x::xs=>if x.2.1=i∧x.2.2.size≠0∧(allS x.2.2).isSome=true∧a≤x.1 then x.2.2::wholeP x.1 (i+1) xs else []
theorem wholeP_go {a i:Nat} {x:Slab3} {xs:List Slab3} (h1:x.2.1=i) (h2:x.2.2.size≠0) (h3:(allS x.2.2).isSome=true) (h4:a≤x.1):wholeP a i (x::xs)=x.2.2::wholeP x.1 (i+1) xs:=by
 rw [wholeP,if_pos ⟨h1,h2,h3,h4⟩]
theorem wholeP_stop {a i:Nat} {x:Slab3} {xs:List Slab3} (h:¬ (x.2.1=i∧x.2.2.size≠0∧(allS x.2.2).isSome=true∧a≤x.1)):wholeP a i (x::xs) = []:=by
 rw [wholeP,if_neg h]
theorem toList_nil {u:ByteArray} (h:u.size=0):(u.toList == [])=true:=by
 rw [ByteArray.toList_eq]
 have h2:u.data.toList.length=0:=h
 rw [List.eq_nil_of_length_eq_zero h2]
 rfl
def WholeOut (w:World) (bs:List ByteArray) (e:Ending) (w':World):Prop:=∃ vb,e=.returned vb∧w'.ownsRow w.heap.size 9 1 vb bs.length (strsV bs)∧Below w.heap.size w w'
set_option maxRecDepth 100000 in
set_option maxHeartbeats 8000000 in
theorem whole_any {w:World} {base:Nat} {v:Value} {L:List Slab3} (hL:w.ownsRow base 105 3 v L.length (slabsV L)) (h0:0 < L.length) (h64:L.length≤64) (hb:∀ x ∈ L,x.2.2.size≤112) (hu:∀ x ∈ L,x.1 < 4294967296∧x.2.1 < 4294967296) (low:Nat) (hlow:low≤2147483647) :
 Calls Tryz.prog 57 #[v,.int .i64 low] w (WholeOut w (wholeP 0 low L)):=by
 obtain ⟨gs,cap,rfl,hcap,hcm⟩:=own_form hL h0
 have HL:=Lib.hid hL
 have hgs:gs < w.heap.size:=(hL.lt gs rfl).2
 have h64i:(L.length:Int)≤64:=by omega
 have hlowi:(low:Int)≤2147483647:=by omega
 have HBD:=Lib.hid hb
 have HU:=Lib.hid hu
 obtain ⟨i0,hi0,hz0,hz1,hz2⟩:=info_parts info_str
 have HI:=Lib.hid (And.intro hi0 (And.intro hz0 (And.intro hz1 hz2)))
 clear hL hb hu hcap hcm hi0 hz0 hz1 hz2
 go_enter Tryz.func57,Tryz.ntmps57
 go_wp2_with fail
 go_step3
 go_wp2_with fail
 go_step3
 go_wp2_with fail
 go_loopw [5,6,13] (fun vb va vk wr=>∃ (k a:Nat) (bs:List ByteArray),vk=.int .i64 k∧va=.int .u32 a∧k≤L.length∧a < 4294967296∧wr.ownsRow w.heap.size 9 1 vb bs.length (strsV bs)∧bs.length≤k∧wholeP 0 low L=bs++wholeP a (low+k) (L.drop k)∧Below w.heap.size w wr) (fun _ _ vk _=>L.length - (intOf vk).toNat)
 case atStart=>exact ⟨0,0,[],rfl,rfl,Nat.zero_le _,by omega,World.ownsRow_nil _ _ _ _,Nat.le_refl _,rfl,Below.refl _ _⟩
 case round =>
  obtain ⟨k,a,bs,rfl,rfl,hk,ha,ho,hbl,hw,hB⟩:=hrel
  have HO:=Lib.hid ho
  have HW:=Lib.hid hw
  have HB:=Lib.hid hB
  clear ho hw hB
  by_cases hlt:k < L.length
  ·have hdrop:L.drop k=L[k]::L.drop (k+1):=List.drop_eq_getElem_cons hlt
   have HDROP:=Lib.hid hdrop
   obtain ⟨e0,e1,e2⟩:=slabsV_at L k hlt
   have hbd:=HBD.out L[k] (List.getElem_mem hlt)
   have hub:=HU.out L[k] (List.getElem_mem hlt)
   have hrow:=own_below HL.out HB.out
   have RANGE:Hid (wr.rangeAt gs (k*3) [.int .u32 L[k].1,.int .u32 L[k].2.1,.string L[k].2.2]):=fun j u hj=>by
    match j,hj with
    | 0,hj=>simp at hj; subst hj; rw [Nat.add_zero,hrow.cellAt _ (by omega)]; exact e0
    | 1,hj=>simp at hj; subst hj; rw [hrow.cellAt _ (by omega)]; exact e1
    | 2,hj=>simp at hj; subst hj; rw [hrow.cellAt _ (by omega)]; exact e2
    | j+3,hj=>simp at hj
   clear hdrop e0 e1 e2 hrow
   generalize hx:L[k]=x at *
   clear hx
   obtain ⟨ep,ix,bd⟩:=x
   simp only at hbd hub RANGE HDROP
   obtain ⟨hep,hix⟩:=hub
   have hn:=Blk.new wr 105 #[.int .u32 0,.int .u32 0,.string ⟨#[]⟩]
   have N3:=hn.setRow #[.int .u32 (ep:Int),.int .u32 (ix:Int),.string bd]
   have hb3:Below wr.heap.size wr ((wr.alloc (.cells #[.int .u32 0,.int .u32 0,.string ⟨#[]⟩] 105)).setRow wr.heap.size #[.int .u32 (ep:Int),.int .u32 (ix:Int),.string bd]):=below_setRow ((Below.refl _ _).alloc (Nat.le_refl _) _) (Nat.le_refl _) _
   have HO3:=Lib.hid (own_below HO.out hb3)
   have HB3:=Lib.hid (below2 HB.out hb3)
   have AL:=Lib.hid (fun W=>all_any bd W (by omega))
   have hki:(k:Int) < L.length:=by omega
   go_upto_region 6 with (first
    | (refine wpList_load_mid rfl 105 _ rfl gs (k*3) rfl [.int .u32 (ep:Int),.int .u32 (ix:Int),.string bd] _ RANGE.out Tryz.underlying105 rfl (by kernel_rfl) ?_)
    | (refine wpList_store_row rfl 105 _ _ rfl wr.heap.size _ rfl rfl 105 _ hn (by kernel_rfl) rfl (by simp [Value.oneCell']) ?_))
   clear hn hb3 HO HB RANGE
   change Code.wp _ _ _ _ ((wr.alloc (.cells #[.int .u32 0,.int .u32 0,.string ⟨#[]⟩] 105)).setRow wr.heap.size #[.int .u32 (ep:Int),.int .u32 (ix:Int),.string bd])
   generalize (wr.alloc (.cells #[.int .u32 0,.int .u32 0,.string ⟨#[]⟩] 105)).setRow wr.heap.size #[.int .u32 (ep:Int),.int .u32 (ix:Int),.string bd]=w3 at *
   generalize wr.heap.size=y at *
   have c2:=N3.cell 2
   simp at c2
   go_wp2_with fail
   refine (AL.out _).mono ?_
   rintro e w4 ⟨va,qa,rfl,_,_,hb4,_⟩
   have HO5:=Lib.hid (own_below HO3.out hb4)
   have HB5:=Lib.hid (below2 HB3.out hb4)
   have N5:=N3.keep hb4 N3.lt
   have d0:=N5.cell 0
   have d1:=N5.cell 1
   have d2:=N5.cell 2
   simp at d0 d1 d2
   clear hb4 HO3 HB3 N3 c2 AL
   have hepi:(ep:Int) < 4294967296:=by omega
   have hixi:(ix:Int) < 4294967296:=by omega
   have hai:(a:Int) < 4294967296:=by omega
   by_cases k1:ix=low+k
   ·by_cases k2:bd.size=0
    ·have t1:((ix:Int) != (low:Int)+(k:Int))=false:=by simp; omega
     have t2:=toList_nil k2
     have hs:wholeP 0 low L=bs:=by rw [HW.out,HDROP.out,wholeP_stop (by simp only; rintro ⟨_,h2,_⟩; exact h2 k2),List.append_nil]
     have HSS:=Lib.hid hs
     clear hs HW HDROP
     clear k1 k2
     go_wp2
     try rw [Exit.noGoto_ret]
     go_ret
     exact ⟨_,rfl,by rw [HSS.out]; exact HO5.out,HB5.out⟩
    ·by_cases k3:(allS bd).isSome=true
     ·by_cases k4:a≤ep
      ·have t1:((ix:Int) != (low:Int)+(k:Int))=false:=by simp; omega
       have t2:=toList_pos (u:=bd) (by omega)
       have t3:allCode (allS bd)=0:=by unfold allCode; rw [k3]; rfl
       have t4:¬ ep < a:=by omega
       have hnext:wholeP 0 low L=(bs++[bd])++wholeP ep (low+(k+1)) (L.drop (k+1)):=by
        rw [HW.out,HDROP.out,wholeP_go (by exact k1) (by exact k2) (by exact k3) (by exact k4)]
        simp [Nat.add_assoc]
       have HNEXT:=Lib.hid hnext
       obtain ⟨va',vc',hvs⟩:=own_slice HO5.out
       subst hvs
       have hbl2:bs.length≤64:=by omega
       clear k1 k2 k3 k4 hnext HW HDROP
       rw [t3]
       clear t3
       obtain ⟨hi0,hz0,hz1,hz2⟩:=id HI.out
       have B6:Below w4.heap.size w4 (w4.alloc (.cells #[.string bd] 9)):=(Below.refl _ _).alloc (Nat.le_refl _) _
       have HO6:=Lib.hid (own_below HO5.out B6)
       have HB6:=Lib.hid (below2 HB5.out B6)
       have hq6:=HB6.out.size
       have E6:=Lib.hid ((B6.cell (p:=⟨y,0,none⟩) (World.block_lt_of_cell? w4 ⟨y,0,none⟩ d0)).trans d0)
       have HY6:Hid (some y≠(Value.slice va' bs.length vc').ownBlock∧y < (w4.alloc (.cells #[.string bd] 9)).heap.size):=⟨fun e=>own_blk HO6.out (N5.keep B6 N5.lt) (by decide) e.symm,Nat.lt_of_lt_of_le N5.lt B6.size⟩
       clear B6 HO5 HB5 hepi hai hixi
       go_wp2_with (at_builtin; refine wpList_append_lies _ rfl (.tmp 42) (.tmp 45) 62 rfl w.heap.size 9 i0 (.string ⟨#[]⟩) 1 16 Tryz.underlying62 hi0 hz0 hz1 hz2 rfl (by decide) _ _ _ rfl HO6.out ⟨w4.heap.size,0,none⟩ 1 1 [.string bd] rfl rfl (World.news_of_block (heap_alloc_new w4 _)) (by simp [Value.oneCell']) (by omega) (by simp only [maxLen]; omega) (by omega) hq6 _ rfl ?_)
       intro gg cap' w7 hown hgrow hat hlt7
       have d7:=(hgrow.cell_far ⟨y,0,none⟩ HY6.out.2 HY6.out.1).trans E6.out
       have HO7:Hid (w7.ownsRow w.heap.size 9 1 (.slice (some ⟨gg,0,none⟩) (bs.length+1) cap') (bs.length+1) (strsV (bs++[bd]))):=by
        rw [show strsV (bs++[bd])=strsV bs++[.string bd] by simp [strsV]]; exact hown
       have HB7:=Lib.hid (show Below w.heap.size w w7 from HB6.out.trans ⟨hgrow.os,hgrow.tape,hgrow.output,hgrow.size,fun b hb=>hgrow.block b (Nat.lt_of_lt_of_le hb hq6) fun e=>by have:=(HO6.out.lt b e.symm).1; omega⟩)
       clear hown hgrow hat HO6 HB6 d0 d1 d2
       go_wp2
       go_roundw
       case rel=>exact ⟨k+1,ep,bs++[bd],by go_num,rfl,by omega,by omega,by simpa using HO7.out,by simp; omega,HNEXT.out,HB7.out⟩
       case measure=>simp [intOf]; omega
      ·have t1:((ix:Int) != (low:Int)+(k:Int))=false:=by simp; omega
       have t2:=toList_pos (u:=bd) (by omega)
       have t3:allCode (allS bd)=0:=by unfold allCode; rw [k3]; rfl
       have t4:(ep:Int) < (a:Int):=by omega
       rw [t3]
       have hs:wholeP 0 low L=bs:=by rw [HW.out,HDROP.out,wholeP_stop (by simp only; rintro ⟨_,_,_,h4⟩; exact k4 h4),List.append_nil]
       have HSS:=Lib.hid hs
       clear hs HW HDROP
       clear k1 k2 k3 k4 t3
       go_wp2
       try rw [Exit.noGoto_ret]
       go_ret
       exact ⟨_,rfl,by rw [HSS.out]; exact HO5.out,HB5.out⟩
     ·have t1:((ix:Int) != (low:Int)+(k:Int))=false:=by simp; omega
      have t2:=toList_pos (u:=bd) (by omega)
      have t3:allCode (allS bd)=3:=by unfold allCode; rw [if_neg k3]
      rw [t3]
      have hs:wholeP 0 low L=bs:=by rw [HW.out,HDROP.out,wholeP_stop (by simp only; rintro ⟨_,_,h3,_⟩; exact k3 h3),List.append_nil]
      have HSS:=Lib.hid hs
      clear hs HW HDROP
      clear k1 k2 k3 t3
      go_wp2
      try rw [Exit.noGoto_ret]
      go_ret
      exact ⟨_,rfl,by rw [HSS.out]; exact HO5.out,HB5.out⟩
   ·have t1:((ix:Int) != (low:Int)+(k:Int))=true:=by simp; omega
    have hs:wholeP 0 low L=bs:=by rw [HW.out,HDROP.out,wholeP_stop (by simp only; rintro ⟨h1,_⟩; exact k1 h1),List.append_nil]
    have HSS:=Lib.hid hs
    clear hs HW HDROP
    clear k1
    go_wp2
    try rw [Exit.noGoto_ret]
    go_ret
    exact ⟨_,rfl,by rw [HSS.out]; exact HO5.out,HB5.out⟩
  ·obtain rfl:k=L.length:=by omega
   have hd:wholeP 0 low L=bs:=by rw [HW.out,List.drop_length]; simp [wholeP]
   have HD:=Lib.hid hd
   clear hd HW
   go_wp2
   try rw [Exit.noGoto_ret]
   go_ret
   exact ⟨_,rfl,by rw [HD.out]; exact HO.out,HB.out⟩
end Go.Proofs.YthkbcfhjmnpggaaGreat

namespace Go.Proofs.YthkbcfhjmnpggaaGreat
open Go.RowKit
def Wl.writes (l:Wl):Dk→Nat→Nat→Dk × Nat
 | D,_,0=>(D,0)
 | D,k,n+1=>if D.writeE (l.place k) (l.sector k)=0 then l.writes (D.write (l.place k) (l.sector k)) (k+1) n else (D.write (l.place k) (l.sector k),D.writeE (l.place k) (l.sector k))
def Wl.flush (l:Wl) (D:Dk):Dk × Wl × Nat :=
 if l.end_=l.first then (D,l,0)
 else if (l.writes D l.first (l.end_ - l.first)).2≠0 then ((l.writes D l.first (l.end_ - l.first)).1,l,(l.writes D l.first (l.end_ - l.first)).2)
 else if (l.writes D l.first (l.end_ - l.first)).1.syncE≠0 then ((l.writes D l.first (l.end_ - l.first)).1.sync,l,(l.writes D l.first (l.end_ - l.first)).1.syncE)
 else ((l.writes D l.first (l.end_ - l.first)).1.sync,{ l with first:=l.end_ },0)
theorem Dk.write_waits (D:Dk) (i:Int) (s:ByteArray):(D.write i s).waits.length≤D.waits.length+1:=by
 unfold Dk.write
 split
 ·split
  ·split
   · simp
   · simp [Dk.burn_waits]
  · omega
 · omega
theorem Wl.Ok.flushed {l:Wl} (h:l.Ok):({ l with first:=l.end_ }:Wl).Ok :=
 ⟨h.s8,h.s64,h.b0,h.l1,h.lm,Nat.le_trans h.fl h.fe,Nat.le_refl _,h.len,h.sec,h.e1,h.em⟩
theorem LogR.setFirst {w:World} {F:Foot} {g gd:Nat} {l:Wl} {vb:Value} {n:Nat} {bs:List ByteArray} (h:LogR w F g gd l vb n bs) (x:Nat) :
 LogR (w.setCell ⟨g,5,none⟩ (.int .i64 x)) F g gd { l with first:=x } vb n bs∧Step F F w (w.setCell ⟨g,5,none⟩ (.int .i64 x)) :=
 ⟨⟨h.head.set 5 _,own_keep h.rows fun b hb=>heap_setCell_other w ⟨g,5,none⟩ b _ fun e=>h.vg (by rw [hb,e]),h.fg,h.fv,fun b hb=>by simpa [World.setCell] using h.lt b hb⟩,(Step.refl F w).set (p:=⟨g,5,none⟩) h.fg _⟩
def FlushOut (w:World) (FD FL:Foot) (g gd:Nat) (x:Dk × Wl × Nat) (e:Ending) (w':World):Prop :=
 e=.returned (.int .i64 x.2.2)∧∃ FD',Sys w' FD' FL g gd x.1 x.2.1∧Step (Both FD FL) (Both FD' FL) w w'
section
variable {w:World} {FD FL:Foot} {g gd:Nat} {D:Dk} {l:Wl}
set_option maxRecDepth 100000 in
set_option maxHeartbeats 2000000 in
theorem flush_idle (h:Sys w FD FL g gd D l) (he:l.end_=l.first) :
 Calls Tryz.prog 13 #[.pointer (some ⟨g,0,none⟩)] w (FlushOut w FD FL g gd (D,l,0)):=by
 have HS:=Lib.hid h
 have H1:=Lib.hid (end_any h.log)
 obtain ⟨ok,vb,r⟩:=h.log
 have c5:=r.cells.2.2.2.2.2.1
 rw [← he] at c5
 clear r ok h he
 generalize l.end_=x at *
 go_enter Tryz.func13,Tryz.ntmps13
 go_wp2_with fail
 refine H1.out.mono ?_
 rintro e w1 ⟨rfl,n,rfl⟩
 go_wp2
 go_ret
 exact ⟨rfl,FD,HS.out.more (drewN_below w n),.ofBelow (drewN_below w n)⟩
set_option maxRecDepth 100000 in
set_option maxHeartbeats 8000000 in
theorem flush_go (h:Sys w FD FL g gd D l) (hne:¬ l.end_=l.first) (hep:l.epoch < 4294967296) (hw:D.waits.length≤1000000) :
 Calls Tryz.prog 13 #[.pointer (some ⟨g,0,none⟩)] w (FlushOut w FD FL g gd (l.flush D)):=by
 have hfl:l.flush D=if (l.writes D l.first (l.end_ - l.first)).2≠0 then ((l.writes D l.first (l.end_ - l.first)).1,l,(l.writes D l.first (l.end_ - l.first)).2) else if (l.writes D l.first (l.end_ - l.first)).1.syncE≠0 then ((l.writes D l.first (l.end_ - l.first)).1.sync,l,(l.writes D l.first (l.end_ - l.first)).1.syncE) else ((l.writes D l.first (l.end_ - l.first)).1.sync,{ l with first:=l.end_ },0):=by
  unfold Wl.flush; rw [if_neg hne]
 have HFL:=Lib.hid hfl
 have HS:=Lib.hid h
 have H1:=Lib.hid (end_any h.log)
 obtain ⟨ok,vb,r⟩:=h.log
 have OK:=Lib.hid ok
 have c5:=r.cells.2.2.2.2.2.1
 have hfe:=ok.fe
 have hfe2:l.end_≤l.first+64:=by have:=ok.fl; have:=ok.len; have:=ok.s64; unfold Wl.end_; omega
 have hem:(l.end_:Int)≤2147483711:=by have:=ok.lm; have:=ok.len; have:=ok.s64; unfold Wl.end_; omega
 have hb:((l.end_:Int) == l.first)=false:=by simp; omega
 have WR:Hid (∀ W FD1 D1 k,Sys W FD1 FL g gd D1 l→l.first≤k→k < l.end_→D1.waits.length < 16777216→_):=fun W FD1 D1 k hS h1 h2 h3=>lwrite_any hS k (Nat.le_trans ok.fl h1) h2 hep h3
 have hle:l.first < l.end_:=by omega
 clear hfl r ok h hne
 generalize hx:l.end_=x at *
 have HX:=Lib.hid hx
 clear hx
 go_enter Tryz.func13,Tryz.ntmps13
 go_wp2_with fail
 refine H1.out.mono ?_
 rintro e w1 ⟨rfl,n,rfl⟩
 go_wp2_with fail
 have S0:=Lib.hid (HS.out.more (drewN_below w n))
 have Q0:=Lib.hid (Step.ofBelow (F:=Both FD FL) (drewN_below w n))
 clear HS H1 c5
 generalize w.drewN n=w0 at *
 generalize hf:l.first=f at *
 have HF:=Lib.hid hf
 clear hf
 go_loopw [4] (fun vk wr=>∃ (k:Nat) (D1:Dk) (FD1:Foot),vk=.int .i64 k∧f≤k∧k≤x∧Sys wr FD1 FL g gd D1 l∧Step (Both FD FL) (Both FD1 FL) w wr∧l.writes D f (x - f)=l.writes D1 k (x - k)∧D1.waits.length≤1000000+(k - f)) (fun vk _=>x - (intOf vk).toNat)
 case atStart=>exact ⟨f,D,FD,rfl,Nat.le_refl _,Nat.le_of_lt hle,S0.out,Q0.out,rfl,by omega⟩
 case round =>
  obtain ⟨k,D1,FD1,rfl,hk1,hk2,hS,hQ,hwr,hwl⟩:=hrel
  have SS:=Lib.hid hS
  have QQ:=Lib.hid hQ
  have HWR:=Lib.hid hwr
  clear hS hQ hwr S0 Q0
  by_cases hlt:k < x
  ·have CW:=Lib.hid (WR.out _ _ _ k SS.out hk1 hlt (by omega))
   have hxk:x - k=(x - (k+1))+1:=by omega
   have hw1:=Dk.write_waits D1 (l.place k) (l.sector k)
   have HXK:=Lib.hid hxk
   clear hxk
   by_cases her:D1.writeE (l.place k) (l.sector k)=0
   ·have hnx:l.writes D f (x - f)=l.writes (D1.write (l.place k) (l.sector k)) (k+1) (x - (k+1)):=by
     rw [HWR.out,HXK.out,Wl.writes,if_pos her]
    have HNX:=Lib.hid hnx
    rw [her] at CW
    clear hnx HWR her
    generalize D1.write (l.place k) (l.sector k)=D2 at *
    go_wp2_with fail
    refine CW.out.mono ?_
    rintro e w2 ⟨rfl,FD2,hs2,hst⟩
    have S2:=Lib.hid hs2
    have Q2:=Lib.hid (QQ.out.trans hst)
    clear hs2 hst CW SS QQ
    go_wp2
    go_roundw
    case rel=>exact ⟨k+1,D2,FD2,by go_num,by omega,by omega,S2.out,Q2.out,HNX.out,by omega⟩
    case measure=>simp [intOf]; omega
   ·have hnx:l.writes D f (x - f)=(D1.write (l.place k) (l.sector k),D1.writeE (l.place k) (l.sector k)):=by
     rw [HWR.out,HXK.out,Wl.writes,if_neg her]
    have hfin:l.flush D=(D1.write (l.place k) (l.sector k),l,D1.writeE (l.place k) (l.sector k)):=by
     rw [HFL.out,hnx,if_pos her]
    have HFIN:=Lib.hid hfin
    have hne:(((D1.writeE (l.place k) (l.sector k):Nat):Int) != 0)=true:=by simp; omega
    clear hnx hfin HWR her HFL
    generalize D1.write (l.place k) (l.sector k)=D2 at *
    generalize D1.writeE (l.place k) (l.sector k)=er at *
    go_wp2_with fail
    refine CW.out.mono ?_
    rintro e w2 ⟨rfl,FD2,hs2,hst⟩
    have S2:=Lib.hid hs2
    have Q2:=Lib.hid (QQ.out.trans hst)
    clear hs2 hst CW SS QQ
    go_wp2
    go_ret
    rw [HFIN.out]
    exact ⟨rfl,FD2,S2.out,Q2.out⟩
  ·obtain rfl:k=x:=by omega
   have hdone:l.writes D f (k - f)=(D1,0):=by rw [HWR.out,Nat.sub_self]; rfl
   have hfin:l.flush D=if D1.syncE≠0 then (D1.sync,l,D1.syncE) else (D1.sync,{ l with first:=k },0):=by
    rw [HFL.out,hdone]; rw [if_neg (by simp)]
   have HFIN:=Lib.hid hfin
   have SY:=Lib.hid (sync_any SS.out.disk)
   have c0:=SS.out.log.2.choose_spec.cells.1
   clear hdone hfin HWR HFL WR
   by_cases her:D1.syncE=0
   ·have hf2:l.flush D=(D1.sync,{ l with first:=k },0):=by rw [HFIN.out,if_neg (by omega)]
    have HF2:=Lib.hid hf2
    rw [her] at SY
    clear hf2 HFIN her
    go_wp2_with fail
    refine SY.out.mono ?_
    rintro e w2 ⟨rfl,hd,hs⟩
    obtain ⟨hs2,hst⟩:=SS.out.onDisk hd hs
    obtain ⟨_,vb2,r2⟩:=hs2.log
    have c5:=r2.cells.2.2.2.2.2.1
    have z5:=r2.head.frozen 5
    obtain ⟨r3,s3⟩:=r2.setFirst k
    have hlog:IsLog (w2.setCell ⟨g,5,none⟩ (.int .i64 k)) FL g gd { l with first:=k }:=by
     have:=OK.out.flushed
     rw [HX.out] at this
     exact ⟨this,vb2,r3⟩
    obtain ⟨S3,Q3⟩:=hs2.onLog hlog s3
    have SS3:=Lib.hid S3
    have QQ3:=Lib.hid (QQ.out.trans (hst.trans Q3))
    clear S3 Q3 hlog r3 s3 r2 hs2 hst hd hs SS QQ c0
    go_wp2
    go_ret
    rw [HF2.out]
    exact ⟨rfl,FD1,SS3.out,QQ3.out⟩
   ·have hf2:l.flush D=(D1.sync,l,D1.syncE):=by rw [HFIN.out,if_pos her]
    have HF2:=Lib.hid hf2
    have hne:(((D1.syncE:Nat):Int) != 0)=true:=by simp; omega
    clear hf2 HFIN her
    generalize D1.syncE=er at *
    go_wp2_with fail
    refine SY.out.mono ?_
    rintro e w2 ⟨rfl,hd,hs⟩
    obtain ⟨hs2,hst⟩:=SS.out.onDisk hd hs
    have SS3:=Lib.hid hs2
    have QQ3:=Lib.hid (QQ.out.trans hst)
    clear hs2 hst hd hs SS QQ c0
    go_wp2
    go_ret
    rw [HF2.out]
    exact ⟨rfl,FD1,SS3.out,QQ3.out⟩
theorem flush_any (h:Sys w FD FL g gd D l) (hep:l.epoch < 4294967296) (hw:D.waits.length≤1000000) :
 Calls Tryz.prog 13 #[.pointer (some ⟨g,0,none⟩)] w (FlushOut w FD FL g gd (l.flush D)):=by
 by_cases he:l.end_=l.first
 ·have e:l.flush D=(D,l,0):=by unfold Wl.flush; rw [if_pos he]
  rw [e]
  exact flush_idle h he
 · exact flush_go h he hep hw
end
end Go.Proofs.YthkbcfhjmnpggaaGreat
