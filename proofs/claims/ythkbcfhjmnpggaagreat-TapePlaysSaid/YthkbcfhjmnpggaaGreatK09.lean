/- Texts that belong together, joined: SlabB, Zero, SlabC, SlabDm, SlabE, SlabF, SlabGm, Wl, DiskA. -/
import Derived.Test.YthkbcfhjmnpggaaGreatK08
import Derived.Test.YthkbcfhjmnpggaaGreatK01
import Derived.Handy
import Derived.Lib.BufferWrite
import Derived.Lib.UnsafeStr
import Derived.Deep.RegionHeld3
import Derived.Deep.RegionWith
import Derived.Test.YthkbcfhjmnpggaaGreatK02
import Derived.Test.YthkbcfhjmnpggaaGreatK00
namespace Go.Proofs.YthkbcfhjmnpggaaGreat
open Go.RowKit
def le4 (n:Nat):List UInt8:=[UInt8.ofNat n,UInt8.ofNat (n / 256),UInt8.ofNat (n / 65536),UInt8.ofNat (n / 16777216)]
set_option maxRecDepth 100000 in
set_option maxHeartbeats 1000000 in
theorem putHigh_any (g off len cap t n:Nat) (l:List UInt8) (w:World) (hn:n < 4294967296) (hb:Blk w g t (bytesV l)) (ho:off+4≤l.length) (h4:4≤len) (hm:len≤9223372036854775807) :
 Calls Tryz.prog 104 #[.slice (some ⟨g,off,none⟩) len cap,.int .u32 n] w fun e w'=>e=.returned (.tuple #[])∧w.grownBy w' (some g)∧Blk w' g t (bytesV (splice l off (be4 n))):=by
 have hN:=Lib.hid hn
 clear hn
 have cell:∀ (w:World) (l:List UInt8) (i:Nat),Blk w g t (bytesV l)→i < l.length→∃ v,w.cell? ⟨g,i,none⟩=some v:=fun w l i hb hi=>⟨_,hb.cellAt (by rw [bytesV_size]; exact hi)⟩
 go_enter Tryz.func104,Tryz.ntmps104
 go_wp2
 refine wp_loop_rounds 5 ?_
 rw [rounds_succ]
 obtain ⟨v0,c0⟩:=cell _ _ off hb (by (try simp only [List.length_set]); omega)
 have f0:=hb.frozen off
 have hb0:=hb.setB off (n / 16777216) ((n:Int) / 16777216 % 256) (by omega)
 go_wp2
 rw [rounds_succ]
 obtain ⟨v1,c1⟩:=cell _ _ (off+1) hb0 (by (try simp only [List.length_set]); omega)
 have f1:=hb0.frozen (off+1)
 have hb1:=hb0.setB (off+1) (n / 65536) ((n:Int) / 65536 % 256) (by omega)
 go_wp2
 rw [rounds_succ]
 obtain ⟨v2,c2⟩:=cell _ _ (off+2) hb1 (by (try simp only [List.length_set]); omega)
 have f2:=hb1.frozen (off+2)
 have hb2:=hb1.setB (off+2) (n / 256) ((n:Int) / 256 % 256) (by omega)
 go_wp2
 rw [rounds_succ]
 obtain ⟨v3,c3⟩:=cell _ _ (off+3) hb2 (by (try simp only [List.length_set]); omega)
 have f3:=hb2.frozen (off+3)
 have hb3:=hb2.setB (off+3) (n) ((n:Int) % 256) (by omega)
 go_wp2
 rw [rounds_succ]
 go_wp2
 go_end0
 refine ⟨rfl,?_,?_⟩
 · exact grown_trans' (grown_trans' (grown_trans' (grown_set _ _ _ _) (grown_set _ _ _ _)) (grown_set _ _ _ _)) (grown_set _ _ _ _)
 ·rw [be4,← set4 _ _ _ _ _ _ ho]
  exact hb3
set_option maxRecDepth 100000 in
set_option maxHeartbeats 1000000 in
theorem putLow_any (g off len cap t n:Nat) (l:List UInt8) (w:World) (hn:n < 4294967296) (hb:Blk w g t (bytesV l)) (ho:off+4≤l.length) (h4:4≤len) (hm:len≤9223372036854775807) :
 Calls Tryz.prog 105 #[.slice (some ⟨g,off,none⟩) len cap,.int .u32 n] w fun e w'=>e=.returned (.tuple #[])∧w.grownBy w' (some g)∧Blk w' g t (bytesV (splice l off (le4 n))):=by
 have hN:=Lib.hid hn
 clear hn
 have cell:∀ (w:World) (l:List UInt8) (i:Nat),Blk w g t (bytesV l)→i < l.length→∃ v,w.cell? ⟨g,i,none⟩=some v:=fun w l i hb hi=>⟨_,hb.cellAt (by rw [bytesV_size]; exact hi)⟩
 go_enter Tryz.func105,Tryz.ntmps105
 go_wp2
 refine wp_loop_rounds 5 ?_
 rw [rounds_succ]
 obtain ⟨v0,c0⟩:=cell _ _ off hb (by (try simp only [List.length_set]); omega)
 have f0:=hb.frozen off
 have hb0:=hb.setB off (n) ((n:Int) % 256) (by omega)
 go_wp2
 rw [rounds_succ]
 obtain ⟨v1,c1⟩:=cell _ _ (off+1) hb0 (by (try simp only [List.length_set]); omega)
 have f1:=hb0.frozen (off+1)
 have hb1:=hb0.setB (off+1) (n / 256) ((n:Int) / 256 % 256) (by omega)
 go_wp2
 rw [rounds_succ]
 obtain ⟨v2,c2⟩:=cell _ _ (off+2) hb1 (by (try simp only [List.length_set]); omega)
 have f2:=hb1.frozen (off+2)
 have hb2:=hb1.setB (off+2) (n / 65536) ((n:Int) / 65536 % 256) (by omega)
 go_wp2
 rw [rounds_succ]
 obtain ⟨v3,c3⟩:=cell _ _ (off+3) hb2 (by (try simp only [List.length_set]); omega)
 have f3:=hb2.frozen (off+3)
 have hb3:=hb2.setB (off+3) (n / 16777216) ((n:Int) / 16777216 % 256) (by omega)
 go_wp2
 rw [rounds_succ]
 go_wp2
 go_end0
 refine ⟨rfl,?_,?_⟩
 · exact grown_trans' (grown_trans' (grown_trans' (grown_set _ _ _ _) (grown_set _ _ _ _)) (grown_set _ _ _ _)) (grown_set _ _ _ _)
 ·rw [le4,← set4 _ _ _ _ _ _ ho]
  exact hb3
set_option maxRecDepth 100000 in
set_option maxHeartbeats 1000000 in
theorem getHigh_any (s:ByteArray) (w:World) (h4:4≤s.size) :
 Calls Tryz.prog 110 #[.string s] w fun e w'=>e=.returned (.int .u32 (num4 s.data.toList:Nat))∧Below w.heap.size w w':=by
 have b0:(s[0].toNat:Int) < 256:=by have:=s[0].toNat_lt; omega
 have b1:(s[1].toNat:Int) < 256:=by have:=s[1].toNat_lt; omega
 have b2:(s[2].toNat:Int) < 256:=by have:=s[2].toNat_lt; omega
 have b3:(s[3].toNat:Int) < 256:=by have:=s[3].toNat_lt; omega
 have i0:0 < s.size:=by omega
 have i1:(1:Int) < s.size:=by omega
 have i2:(2:Int) < s.size:=by omega
 have i3:(3:Int) < s.size:=by omega
 have hr:=or_be (s[0].toNat) (s[1].toNat) (s[2].toNat) (s[3].toNat) s[0].toNat_lt s[1].toNat_lt s[2].toNat_lt s[3].toNat_lt
 have hr':=Lib.hid hr
 clear hr
 go_enter Tryz.func110,Tryz.ntmps110
 go_wp2
 refine wp_loop_rounds 5 ?_
 rw [rounds_succ]
 go_wp2
 rw [rounds_succ]
 go_wp2
 rw [rounds_succ]
 go_wp2
 rw [rounds_succ]
 go_wp2
 rw [rounds_succ]
 go_wp2
 go_ret
 refine ⟨?_,Below.refl _ _⟩
 rw [hr'.out,num4,getD_at s 0 (by omega),getD_at s 1 (by omega),getD_at s 2 (by omega),getD_at s 3 (by omega)]
 rfl
end Go.Proofs.YthkbcfhjmnpggaaGreat

namespace Go.Proofs.YthkbcfhjmnpggaaGreat
open Go.RowKit
theorem zero_run (w:World):(zeroValue 131).run Tryz.prog w=.ok (.agg (bytesV (List.replicate 128 0))) w:=by kernel_rfl
set_option maxRecDepth 100000 in
set_option maxHeartbeats 1000000 in
theorem zero_any (w:World) :
 Calls Tryz.prog 33 #[] w fun e w'=>e=.returned (.string ⟨(List.replicate 128 0).toArray⟩)∧Below w.heap.size w w':=by
 have hz:=zero_run
 generalize hl:List.replicate 128 (0:UInt8)=l at *
 have hc:=conv_blk (Blk.new w 131 (bytesV l)) 0 128 128 (by rw [← hl]; simp) 47 5 9 Tryz.underlying47 Tryz.underlying5 Tryz.underlying9
 have hL:=Lib.hid hl
 clear hl
 go_enter Tryz.func33,Tryz.ntmps33
 go_wp2
 go_ret
 refine ⟨?_,(Below.refl _ _).alloc (Nat.le_refl _) _⟩
 show Ending.returned (.string ⟨(List.take 128 l).toArray⟩)=_
 rw [List.take_of_length_le (by rw [← hL.out]; simp)]
end Go.Proofs.YthkbcfhjmnpggaaGreat

namespace Go.Proofs.YthkbcfhjmnpggaaGreat
open Go.RowKit
structure Packing (w W:World) (E I:Nat) (s:ByteArray) (l:List UInt8):Prop where
 below:Below w.heap.size w W
 box:Blk W w.heap.size 105 #[.int .u32 E,.int .u32 I,.string s]
 row:Blk W (w.heap.size+1) 131 (bytesV l)
namespace Packing
variable {w W W':World} {E I:Nat} {s:ByteArray} {l l':List UInt8}
theorem start:Packing w ((w.alloc (.cells #[.int .u32 E,.int .u32 I,.string s] 105)).alloc (.cells (bytesV l) 131)) E I s l:=by
 refine ⟨((Below.refl _ _).alloc (Nat.le_refl _) _).alloc (by simp) _,(Blk.new _ _ _).alloc _,?_⟩
 have h:=Blk.new (w.alloc (.cells #[.int .u32 E,.int .u32 I,.string s] 105)) 131 (bytesV l)
 simp only [World.size_alloc] at h
 exact h
theorem drew (h:Packing w W E I s l):Packing w W.drew E I s l:=⟨h.below.drew,h.box,h.row⟩
theorem c0 (h:Packing w W E I s l):W.cell? ⟨w.heap.size,0,none⟩=some (.int .u32 E):=h.box.cellAt (by simp)
theorem c1 (h:Packing w W E I s l):W.cell? ⟨w.heap.size,1,none⟩=some (.int .u32 I):=h.box.cellAt (by simp)
theorem c2 (h:Packing w W E I s l):W.cell? ⟨w.heap.size,2,none⟩=some (.string s):=h.box.cellAt (by simp)
theorem grown (h:Packing w W E I s l) (hg:W.grownBy W' (some (w.heap.size+1))) (hr:Blk W' (w.heap.size+1) 131 (bytesV l')):Packing w W' E I s l' :=
 ⟨h.below.grown hg h.below.size (fun k hk=>by simp at hk; omega),(hg.block _ h.box.lt (by simp)).trans h.box,hr⟩
theorem copied (h:Packing w W E I s l) (l':List UInt8):Packing w (W.setRow (w.heap.size+1) (bytesV l')) E I s l' :=
 ⟨below_setRow h.below (by omega) _,h.box.farRow (by omega) _,h.row.setRow _⟩
theorem more (h:Packing w W E I s l) (hb:Below W.heap.size W W'):Packing w W' E I s l :=
 ⟨below2 h.below hb,h.box.keep hb h.box.lt,h.row.keep hb h.row.lt⟩
end Packing
def sect0 (E I:Nat) (s:ByteArray):List UInt8 :=
 splice (splice (splice (splice (List.replicate 128 0) 0 (be4 E)) 4 (be4 I)) 8 (be4 (s.size*65536))) 12 s.data.toList
def sect (E I:Nat) (s:ByteArray):List UInt8:=splice (sect0 E I s) 124 (le4 (Crc.sum ((sect0 E I s).take 124)))
theorem le4_len (n:Nat):(le4 n).length=4:=rfl
theorem len_splice {l c:List UInt8} {o:Nat} (h:o+c.length≤l.length):(splice l o c).length=l.length:=length_splice l o c h
theorem sect0_len (E I:Nat) (s:ByteArray) (hl:s.size≤112):(sect0 E I s).length=128:=by
 unfold sect0
 rw [len_splice,len_splice,len_splice,len_splice,List.length_replicate]
 · rw [be4_len,List.length_replicate]; omega
 · rw [be4_len,len_splice,List.length_replicate] <;> (try rw [be4_len,List.length_replicate]) <;> omega
 · rw [be4_len,len_splice,len_splice,List.length_replicate] <;> (try rw [be4_len]) <;> (try rw [len_splice]) <;> (try rw [be4_len]) <;> (try rw [List.length_replicate]) <;> omega
 ·rw [size_bytes,len_splice,len_splice,len_splice,List.length_replicate] <;> (try rw [be4_len]) <;> (try rw [len_splice]) <;> (try rw [len_splice]) <;> (try rw [be4_len]) <;> (try rw [List.length_replicate]) <;> (try omega)
  all_goals (rw [be4_len,List.length_replicate]; omega)
theorem sect_len (E I:Nat) (s:ByteArray) (hl:s.size≤112):(sect E I s).length=128:=by
 unfold sect
 rw [len_splice] <;> rw [sect0_len E I s hl]
 rw [le4_len]; omega
set_option maxRecDepth 100000 in
set_option maxHeartbeats 2000000 in
theorem pack_any (E I:Nat) (s:ByteArray) (w:World) (hE:E < 4294967296) (hI:I < 4294967296) (hl:s.size≤112) :
 Calls Tryz.prog 74 #[.agg #[.int .u32 E,.int .u32 I,.string s]] w fun e w'=>e=.returned (.tuple #[.string ⟨(sect E I s).toArray⟩,.int .i64 0])∧Below w.heap.size w w':=by
 have hz:=zero_run
 have L0:128≤(List.replicate 128 (0:UInt8)).length:=by simp
 have HR:Hid (sect E I s=splice (splice (splice (splice (splice (List.replicate 128 0) 0 (be4 E)) 4 (be4 I)) 8 (be4 (s.size*65536))) 12 s.data.toList) 124 (le4 (Crc.sum ((splice (splice (splice (splice (List.replicate 128 0) 0 (be4 E)) 4 (be4 I)) 8 (be4 (s.size*65536))) 12 s.data.toList).take 124)))):=rfl
 generalize List.replicate 128 (0:UInt8)=l at *
 have L1:128≤(splice l 0 (be4 E)).length:=by rw [len_splice (by rw [be4_len]; omega)]; exact L0
 have L2:128≤(splice (splice l 0 (be4 E)) 4 (be4 I)).length:=by rw [len_splice (by rw [be4_len]; omega)]; exact L1
 have L3:128≤(splice (splice (splice l 0 (be4 E)) 4 (be4 I)) 8 (be4 (s.size*65536))).length:=by rw [len_splice (by rw [be4_len]; omega)]; exact L2
 have L4:128≤(splice (splice (splice (splice l 0 (be4 E)) 4 (be4 I)) 8 (be4 (s.size*65536))) 12 s.data.toList).length:=by rw [len_splice (by rw [size_bytes]; omega)]; exact L3
 go_enter Tryz.func74,Tryz.ntmps74
 go_wp2
 have hp:=Packing.start (w:=w) (E:=E) (I:=I) (s:=s) (l:=l)
 generalize ((w.alloc (.cells #[.int .u32 E,.int .u32 I,.string s] 105)).alloc (.cells (bytesV l) 131))=w1 at *
 have c:=hp.c0
 go_still_tail 3,(by kernel_rfl)
 change wpList _ _ _ _ _ w1.drew
 replace hp:=hp.drew
 clear c
 generalize w1.drew=w2 at *
 go_wp2_with fail
 refine (putHigh_any (w.heap.size+1) 0 128 128 _ E l _ hE hp.row (by omega) (by omega) (by omega)).mono ?_
 rintro e w3 ⟨rfl,hg,hb⟩
 replace hp:=hp.grown hg hb
 clear hg hb
 have c:=hp.c1
 go_wp2_with fail
 go_still_tail 3,(by kernel_rfl)
 change wpList _ _ _ _ _ w3.drew
 replace hp:=hp.drew
 clear c
 generalize w3.drew=w4 at *
 go_wp2_with fail
 refine (putHigh_any (w.heap.size+1) 4 124 124 _ I _ _ hI hp.row (by omega) (by omega) (by omega)).mono ?_
 rintro e w5 ⟨rfl,hg,hb⟩
 replace hp:=hp.grown hg hb
 clear hg hb
 have c:=hp.c2
 go_wp2_with fail
 go_still_tail 6,(by kernel_rfl)
 change wpList _ _ _ _ _ w5.drew
 replace hp:=hp.drew
 clear c
 generalize w5.drew=w6 at *
 go_wp2_with fail
 rw [show (s.size:Int)*65536=((s.size*65536:Nat):Int) from by omega]
 refine (putHigh_any (w.heap.size+1) 8 120 120 _ (s.size*65536) _ _ (by omega) hp.row (by omega) (by omega) (by omega)).mono ?_
 rintro e w7 ⟨rfl,hg,hb⟩
 replace hp:=hp.grown hg hb
 clear hg hb
 have c:=hp.c2
 go_wp2_with fail
 go_still_tail 3,(by kernel_rfl)
 change wpList _ _ _ _ _ w7.drew
 replace hp:=hp.drew
 clear c
 generalize w7.drew=w8 at *
 have hcp:=Lib.run_copy_row_string (P:=Tryz.prog) w8 47 9 3 5 (w.heap.size+1) 12 116 116 s _ 131 Tryz.underlying47 info_u8 hp.row (by omega) (by rw [bytesV_size]; omega)
 rw [← size_bytes s,bytesV_splice,size_bytes s] at hcp
 go_wp2_with fail
 clear hcp
 replace hp:=hp.copied (splice (splice (splice (splice l 0 (be4 E)) 4 (be4 I)) 8 (be4 (s.size*65536))) 12 s.data.toList)
 generalize w8.setRow _ _=w9 at *
 generalize splice (splice (splice (splice l 0 (be4 E)) 4 (be4 I)) 8 (be4 (s.size*65536))) 12 s.data.toList=l4 at *
 have hsz:(⟨(List.take 124 l4).toArray⟩:ByteArray).size≤maxLen:=by
  show (List.take 124 l4).toArray.size≤maxLen
  simp [maxLen]; omega
 have hcv:=conv_blk hp.drew.row 0 124 128 (by omega) 47 5 9 Tryz.underlying47 Tryz.underlying5 Tryz.underlying9
 go_region_with (first
  | (go_at_call 106; refine (sum_any _ _ hsz).mono ?_; rintro e w10 ⟨rfl,hb10⟩)
  | (go_at_call 105; refine (putLow_any (w.heap.size+1) 124 4 4 _ _ _ _ (Crc.sum_lt _) (hp.drew.more hb10).row (by omega) (by omega) (by omega)).mono ?_; rintro e w11 ⟨rfl,hg,hb⟩))
 replace hp:=(hp.drew.more hb10).grown hg hb
 have hS:=hp.row
 rw [← HR.out] at hS
 have hcv2:=conv_blk hS 0 128 128 (by rw [sect_len E I s hl]; omega) 47 5 9 Tryz.underlying47 Tryz.underlying5 Tryz.underlying9
 go_wp2
 go_ret2
 refine ⟨?_,hp.below⟩
 show Ending.returned (.tuple #[.string ⟨(List.take 128 (sect E I s)).toArray⟩,.int .i64 0])=_
 rw [List.take_of_length_le (by rw [sect_len E I s hl]; omega)]
end Go.Proofs.YthkbcfhjmnpggaaGreat

namespace Go.Proofs.YthkbcfhjmnpggaaGreat
open Go.RowKit
theorem splice_app {α:Type} (p x q c:List α) (n:Nat) (hn:p.length=n) (h:x.length=c.length):splice (p++x++q) n c=p++c++q:=by
 subst hn
 unfold splice
 rw [List.append_assoc,List.take_left' rfl,← List.append_assoc p x q,List.drop_left' (by simp [h]),← List.append_assoc]
def front (E I:Nat) (s:ByteArray):List UInt8:=be4 E++be4 I++[0,UInt8.ofNat s.size,0,0]++s.data.toList++List.replicate (112 - s.size) 0
theorem front_len (E I:Nat) (s:ByteArray) (h:s.size≤112):(front E I s).length=124:=by
 unfold front
 simp only [List.length_append,be4_len,size_bytes,List.length_replicate,List.length_cons,List.length_nil]
 omega
theorem be4_size (n:Nat) (h:n≤112):be4 (n*65536) = [0,UInt8.ofNat n,0,0]:=by
 have e1:UInt8.ofNat (n*65536 / 16777216)=0:=by rw [show n*65536 / 16777216=0 from by omega]; rfl
 have e2:n*65536 / 65536=n:=by omega
 have e3:UInt8.ofNat (n*65536 / 256)=0:=by
  apply UInt8.toNat_inj.1
  simp <;> omega
 have e4:UInt8.ofNat (n*65536)=0:=by
  apply UInt8.toNat_inj.1
  simp <;> omega
 unfold be4
 rw [e1,e2,e3,e4]
theorem sect0_eq (E I:Nat) (s:ByteArray) (h:s.size≤112):sect0 E I s=front E I s++List.replicate 4 0:=by
 unfold sect0 front
 have r1:List.replicate 128 (0:UInt8) = []++List.replicate 4 0++(List.replicate 4 0++(List.replicate 4 0++(List.replicate s.size 0++(List.replicate (112 - s.size) 0++List.replicate 4 0)))):=by
  simp only [List.replicate_append_replicate,List.nil_append]
  congr 1
  omega
 have r2:∀ (p x q:List UInt8),p++(x++q)=p++x++q:=fun p x q=>(List.append_assoc _ _ _).symm
 rw [r1,splice_app [] _ _ (be4 E) 0 rfl (by simp [be4_len]),r2,splice_app _ _ _ (be4 I) 4 (by simp [be4_len]) (by simp [be4_len]),r2,
  splice_app _ _ _ (be4 (s.size*65536)) 8 (by simp [be4_len]) (by simp [be4_len]),r2,splice_app _ _ _ s.data.toList 12 (by simp [be4_len]) (by simp),be4_size _ h]
 simp
theorem sect_eq (E I:Nat) (s:ByteArray) (h:s.size≤112):sect E I s=front E I s++le4 (Crc.sum (front E I s)):=by
 unfold sect
 rw [sect0_eq E I s h,List.take_left' (front_len E I s h)]
 have:=splice_app (front E I s) (List.replicate 4 0) [] (le4 (Crc.sum (front E I s))) 124 (front_len E I s h) (by simp [le4_len])
 simpa using this
end Go.Proofs.YthkbcfhjmnpggaaGreat

namespace Go.Proofs.YthkbcfhjmnpggaaGreat
open Go.RowKit
theorem i64_or (a b:Nat) (ha:a < 256) (hb:b < 256):bits .or .i64 ((a:Int)*256) (b:Int)=((a*256+b:Nat):Int):=by
 have h:=(bits_nat .i64 62 (by decide) (fun n h0 h1=>by rw [IntKind.wrap_i64]; omega) (a*256) b (by omega) (by omega)).2
 rw [show (a:Int)*256=((a*256:Nat):Int) from by omega,h]
 congr 1
 have:=Nat.shiftLeft_add_eq_or_of_lt (b:=b) (i:=8) (by omega) a
 rw [Nat.shiftLeft_eq] at this
 exact this.symm
def partE (s:ByteArray):Nat:=num4 s.data.toList
def partI (s:ByteArray):Nat:=num4 (s.data.toList.drop 4)
def partN (s:ByteArray):Nat:=(s.data.toList.getD 9 0).toNat
def partB (s:ByteArray):ByteArray:=s.extract 12 (12+partN s)
def IsSlab (s:ByteArray):Prop:=s.size=128∧s.data.toList.getD 8 0=0∧partN s≤112∧sect (partE s) (partI s) (partB s)=s.data.toList
def slabV (E I:Nat) (b:ByteArray):Value:=.agg #[.int .u32 E,.int .u32 I,.string b]
def noSlab:Value:=.agg #[.int .u32 0,.int .u32 0,.string ⟨#[]⟩]
theorem num4_lt (l:List UInt8):num4 l < 4294967296:=by
 unfold num4
 have a:=(l.getD 0 0).toNat_lt
 have b:=(l.getD 1 0).toNat_lt
 have c:=(l.getD 2 0).toNat_lt
 have d:=(l.getD 3 0).toNat_lt
 omega
set_option maxRecDepth 100000 in
set_option maxHeartbeats 2000000 in
theorem unpack_size (s:ByteArray) (w:World) (h:s.size≠128) :
 Calls Tryz.prog 84 #[.string s] w fun e w'=>e=.returned (.tuple #[noSlab,.int .i64 8])∧Below w.heap.size w w':=by
 have h1:((s.size:Int) != 128)=true:=by simp; omega
 go_enter Tryz.func84,Tryz.ntmps84
 go_wp2
 exact bodyPost_ret (results_row_tmp rfl _ _ w.heap.size 105 _ _ rfl (Blk.new _ _ _) Tryz.underlying105 rfl (by kernel_rfl)) rfl ⟨rfl,(Below.refl _ _).alloc (Nat.le_refl _) _⟩
set_option maxRecDepth 100000 in
set_option maxHeartbeats 2000000 in
theorem unpack_len (s:ByteArray) (w:World) (h:Hid (s.size=128)) (h8:8 < s.size) (h9:9 < s.size) (hn:112 < s[8].toNat*256+s[9].toNat) :
 Calls Tryz.prog 84 #[.string s] w fun e w'=>e=.returned (.tuple #[noSlab,.int .i64 8])∧Below w.heap.size w w':=by
 have h1:((s.size:Int) != 128)=false:=by simp [h.out]
 have i8:(8:Int) < s.size:=by omega
 have i9:(9:Int) < s.size:=by omega
 have b8:(s[8].toNat:Int) < 256:=by have:=s[8].toNat_lt; omega
 have b9:(s[9].toNat:Int) < 256:=by have:=s[9].toNat_lt; omega
 have ho:=i64_or s[8].toNat s[9].toNat s[8].toNat_lt s[9].toNat_lt
 have hgt:(112:Int) < ((s[8].toNat*256+s[9].toNat:Nat):Int):=by omega
 generalize s[8].toNat*256+s[9].toNat=n at *
 go_enter Tryz.func84,Tryz.ntmps84
 go_wp2
 go_region
 all_goals
  go_wp2
  exact bodyPost_ret (results_row_tmp rfl _ _ w.heap.size 105 _ _ rfl (Blk.drew (Blk.new _ _ _)) Tryz.underlying105 rfl (by kernel_rfl)) rfl ⟨rfl,((Below.refl _ _).alloc (Nat.le_refl _) _).drew⟩
set_option maxRecDepth 100000 in
set_option maxHeartbeats 4000000 in
theorem unpack_rest (s:ByteArray) (w:World) (h:Hid (s.size=128)) (h8:8 < s.size) (h9:9 < s.size) (n:Nat) (hn:Hid (n=s[8].toNat*256+s[9].toNat)) (hle:n≤112) (yes:Bool)
 (hyes:(sect (partE s) (partI s) (s.extract 12 (12+n))=s.data.toList)↔yes=true) :
 Calls Tryz.prog 84 #[.string s] w fun e w'=>e=.returned (.tuple (if yes then #[slabV (partE s) (partI s) (s.extract 12 (12+n)),.int .i64 0] else #[noSlab,.int .i64 8]))∧Below w.heap.size w w':=by
 have h1:((s.size:Int) != 128)=false:=by simp [h.out]
 have i8:(8:Int) < s.size:=by omega
 have i9:(9:Int) < s.size:=by omega
 have b8:(s[8].toNat:Int) < 256:=by have:=s[8].toNat_lt; omega
 have b9:(s[9].toNat:Int) < 256:=by have:=s[9].toNat_lt; omega
 have ho:=i64_or s[8].toNat s[9].toNat s[8].toNat_lt s[9].toNat_lt
 rw [← hn.out] at ho
 have hsz:128≤s.size:=by rw [h.out]; omega
 go_enter Tryz.func84,Tryz.ntmps84
 go_wp2
 go_region
 go_wp2
 have hsl:=slice_str (P:=Tryz.prog) 9 Tryz.underlying9 s 12 (12+n) .i64 .i64 12 (12+(n:Int)) (by omega) (by omega) (by omega) (by omega)
 have hx4:4≤(s.extract 4 s.size).size:=by rw [ByteArray.size_extract]; omega
 have hx12:(s.extract 12 (12+n)).size≤281474976710656:=by rw [ByteArray.size_extract]; omega
 have hr0:=Blk.drew (Blk.new w 105 #[.int .u32 0,.int .u32 0,.string ⟨#[]⟩])
 have hB0:=((Below.refl w.heap.size w).alloc (Nat.le_refl _) (.cells #[.int .u32 0,.int .u32 0,.string ⟨#[]⟩] 105)).drew
 generalize hg:w.heap.size=g at *
 have hG:=Lib.hid hg
 clear hg
 generalize (w.alloc (.cells #[.int .u32 0,.int .u32 0,.string ⟨#[]⟩] 105)).drew=w1 at *
 refine' wp_region_conf 13 [.is _,.is _,.is _,.is _,.is _,.is _,.is _,.is _,.is _,.is _,.is _,.is _,.ptr w1.heap.size 105 #[.int .u32 0,.int .u32 0,.string ⟨#[]⟩]] (by kernel_rfl) (by kernel_rfl) (by kernel_rfl) (by kernel_rfl) rfl ?main
 case main =>
  iterate 2
   refine obs_is (fun w2 hE2 _=>?_) ?_
   ·go_wp2
    exact post_is (Below.refl _ _)
   simp only [Act.put,sA,sB,sC]
  refine obs_is (fun w2 hE2 _=>?_) ?_
  ·go_wp2_with fail
   refine (getHigh_any s _ (by omega)).mono ?_
   rintro e w3 ⟨rfl,hb3⟩
   go_wp2
   exact post_is hb3
  simp only [Act.put,sA,sB,sC]
  iterate 2
   refine obs_is (fun w2 hE2 _=>?_) ?_
   ·go_wp2
    exact post_is (Below.refl _ _)
   simp only [Act.put,sA,sB,sC]
  refine obs_is (fun w2 hE2 _=>?_) ?_
  ·go_wp2_with fail
   refine (getHigh_any (s.extract 4 s.size) _ hx4).mono ?_
   rintro e w3 ⟨rfl,hb3⟩
   go_wp2
   exact post_is hb3
  simp only [Act.put,sA,sB,sC]
  iterate 4
   refine obs_is (fun w2 hE2 _=>?_) ?_
   ·go_wp2
    exact post_is (Below.refl _ _)
   simp only [Act.put,sA,sB,sC]
  refine obs_is (fun w2 hE2 _=>?_) ?_
  ·go_wp2_with fail
   refine (cloneS_any (s.extract 12 (12+n)) _ hx12).mono ?_
   rintro e w3 ⟨rfl,hb3⟩
   go_wp2
   exact post_is hb3
  simp only [Act.put,sA,sB,sC]
  iterate 1
   refine obs_is (fun w2 hE2 _=>?_) ?_
   ·go_wp2
    exact post_is (Below.refl _ _)
   simp only [Act.put,sA,sB,sC]
  refine obs_ptr (fun w2 hE2 _=>?_) (fun x=>?_)
  ·go_wp2
   exact ⟨_,rfl,⟨w2.heap.size,hE2.size,rfl,Blk.new _ _ _⟩,(Below.refl _ _).alloc (Nat.le_refl _) _⟩
  simp only [Act.put,sA,sB,sC]
  refine obs_end fun w3 hE3 hk=>?_
  obtain ⟨g2,hg2,rfl,hb2⟩:=hk _ (List.mem_cons_self)
  clear hk
  have hB3:Below w.heap.size w w3:=by rw [hG.out]; exact hB0.drew.trans (hE3.mono (show g≤w1.heap.size by rw [← hG.out]; exact hB0.size))
  have hr3:=hr0.drew.keep hE3 hr0.lt
  have hne:g≠g2:=by
   have:=hr0.lt
   omega
  rw [show List.take (s.size - 4) (List.drop 4 s.data.toList)=List.drop 4 s.data.toList from List.take_of_length_le (by simp)]
  refine wpList_store_row rfl 105 _ _ rfl g2 (#[.int .u32 (num4 s.data.toList:Nat),.int .u32 (num4 (s.data.toList.drop 4):Nat),.string (s.extract 12 (12+n))]) rfl rfl 105 _ hb2 (by kernel_rfl) (by simp) (by simp [Value.oneCell']) ?_
  replace hb2:=hb2.setRow #[.int .u32 (num4 s.data.toList:Nat),.int .u32 (num4 (s.data.toList.drop 4):Nat),.string (s.extract 12 (12+n))]
  replace hr3:=hr3.farRow hne #[.int .u32 (num4 s.data.toList:Nat),.int .u32 (num4 (s.data.toList.drop 4):Nat),.string (s.extract 12 (12+n))]
  replace hB3:=below_setRow hB3 (g:=g2) (by rw [hG.out]; have:=hB0.size; rw [hG.out] at this; omega) #[.int .u32 (num4 s.data.toList:Nat),.int .u32 (num4 (s.data.toList.drop 4):Nat),.string (s.extract 12 (12+n))]
  simp only [Act.put]
  generalize w3.setRow g2 _=w4 at *
  have c0:=hb2.cellAt (i:=0) (by simp)
  have c1:=hb2.cellAt (i:=1) (by simp)
  have c2:=hb2.cellAt (i:=2) (by simp)
  simp at c0 c1 c2
  go_wp2_with fail
  refine (pack_any _ _ _ _ (num4_lt _) (num4_lt _) (by rw [ByteArray.size_extract]; omega)).mono ?_
  rintro e w5 ⟨rfl,hb5⟩
  have htest:(sect (num4 s.data.toList) (num4 (List.drop 4 s.data.toList)) (s.extract 12 (12+n)) == s.toList)=yes:=by
   rw [Bool.eq_iff_iff,beq_iff_eq,ByteArray.toList_eq]
   exact hyes
  have hr5:=hr3.keep hb5 hr3.lt
  have hx5:=hb2.keep hb5 hb2.lt
  have hB5:=below2 hB3 hb5
  clear c0 c1 c2 hyes
  cases yes
  ·go_wp2_with (refine wpList_store_row rfl 105 _ _ rfl g _ rfl rfl 105 _ hr5 (by kernel_rfl) (by simp) (by simp [Value.oneCell']) ?_)
   refine bodyPost_ret (results_row_tmp rfl _ _ g 105 _ _ rfl (hr5.setRow _) Tryz.underlying105 rfl (by kernel_rfl)) rfl ⟨rfl,below_setRow hB5 (by rw [hG.out]; omega) _⟩
  ·go_wp2_with (first
    | (refine wpList_load_row rfl 105 _ rfl g2 rfl 105 _ (0,0) _ hx5 Tryz.underlying105 rfl (by kernel_rfl) ?_)
    | (refine wpList_store_row rfl 105 _ _ rfl g _ rfl rfl 105 _ hr5 (by kernel_rfl) (by simp) (by simp [Value.oneCell']) ?_))
   refine bodyPost_ret (results_row_tmp rfl _ _ g 105 _ _ rfl (hr5.setRow _) Tryz.underlying105 rfl (by kernel_rfl)) rfl ⟨rfl,below_setRow hB5 (by rw [hG.out]; omega) _⟩
end Go.Proofs.YthkbcfhjmnpggaaGreat

namespace Go.Proofs.YthkbcfhjmnpggaaGreat
open Go.RowKit
theorem getD_nat (s:ByteArray) (i:Nat) (h:i < s.size):(s.data.toList.getD i 0).toNat=s[i].toNat:=by rw [getD_at s i h]
theorem unpack_yes (s:ByteArray) (w:World) (h:IsSlab s) :
 Calls Tryz.prog 84 #[.string s] w fun e w'=>e=.returned (.tuple #[slabV (partE s) (partI s) (partB s),.int .i64 0])∧Below w.heap.size w w':=by
 obtain ⟨hz,h0,hn,hs⟩:=h
 have h8:s[8]'(by omega)=0:=by rw [← getD_at s 8 (by omega)]; exact h0
 have hn':partN s=(s[9]'(by omega)).toNat:=getD_nat s 9 (by omega)
 exact unpack_rest s w hz (by omega) (by omega) (partN s) (show _=_ by rw [hn',h8]; simp) hn true (by simpa [partB] using hs)
theorem unpack_no (s:ByteArray) (w:World) (h:¬ IsSlab s) :
 Calls Tryz.prog 84 #[.string s] w fun e w'=>e=.returned (.tuple #[noSlab,.int .i64 8])∧Below w.heap.size w w':=by
 by_cases hz:s.size=128
 ·by_cases hc:112 < (s[8]'(by omega)).toNat*256+(s[9]'(by omega)).toNat
  · exact unpack_len s w hz (by omega) (by omega) hc
  ·have h8:(s[8]'(by omega)).toNat=0:=by omega
   have hn':partN s=(s[9]'(by omega)).toNat:=getD_nat s 9 (by omega)
   have h0:s.data.toList.getD 8 0=0:=by
    rw [getD_at s 8 (by omega)]
    exact UInt8.toNat_inj.1 h8
   exact unpack_rest s w hz (by omega) (by omega) (partN s) (show _=_ by rw [hn',h8]; simp) (by omega) false
    (by
      constructor
      · intro hs; exact absurd ⟨hz,h0,by omega,hs⟩ h
      · intro hf; cases hf)
 · exact unpack_size s w hz
end Go.Proofs.YthkbcfhjmnpggaaGreat

namespace Go.Proofs.YthkbcfhjmnpggaaGreat
open Go.RowKit
def packed (E I:Nat) (b:ByteArray):ByteArray:=⟨(sect E I b).toArray⟩
theorem packed_data (E I:Nat) (b:ByteArray):(packed E I b).data.toList=sect E I b:=rfl
theorem sect_split (E I:Nat) (b:ByteArray) (hb:b.size≤112) :
 sect E I b=be4 E++(be4 I++(0::UInt8.ofNat b.size::0::0::(b.data.toList++(List.replicate (112 - b.size) 0++le4 (Crc.sum (front E I b)))))):=by
 rw [sect_eq E I b hb]
 unfold front
 simp only [List.append_assoc,List.cons_append,List.nil_append]
section
variable {E I:Nat} {b:ByteArray} (hE:E < 4294967296) (hI:I < 4294967296) (hb:b.size≤112)
include hb in
theorem packed_size:(packed E I b).size=128:=by rw [← size_bytes,packed_data,sect_len E I b hb]
include hE hb in
theorem partE_packed:partE (packed E I b)=E:=by
 unfold partE
 rw [packed_data,sect_split E I b hb,num4_be4 E hE]
include hI hb in
theorem partI_packed:partI (packed E I b)=I:=by
 unfold partI
 rw [packed_data,sect_split E I b hb,List.drop_left' (be4_len E),num4_be4 I hI]
include hb in
theorem partN_packed:partN (packed E I b)=b.size:=by
 unfold partN
 rw [packed_data,sect_split E I b hb]
 simp [be4,List.getD_eq_getElem?_getD]
 omega
include hb in
theorem partB_packed:partB (packed E I b)=b:=by
 unfold partB
 rw [partN_packed hb]
 apply str_ext
 rw [Lib.extract_data,packed_data,sect_split E I b hb]
 have e:∀ r:List UInt8,List.drop 12 (be4 E++(be4 I++(0::UInt8.ofNat b.size::0::0::r)))=r:=fun r=>by simp [be4]
 rw [e,show 12+b.size - 12=b.data.toList.length from by rw [size_bytes]; omega,List.take_left' rfl]
include hE hI hb in
theorem isSlab_packed:IsSlab (packed E I b):=by
 refine ⟨packed_size hb,?_,by rw [partN_packed hb]; exact hb,by rw [partE_packed hE hb,partI_packed hI hb,partB_packed hb,packed_data]⟩
 rw [packed_data,sect_split E I b hb]
 simp [be4,List.getD_eq_getElem?_getD]
end
theorem partB_size {s:ByteArray} (h:IsSlab s):(partB s).size≤112:=by
 unfold partB
 have:=h.2.2.1
 rw [ByteArray.size_extract]
 omega
def zeros:ByteArray:=⟨(List.replicate 128 0).toArray⟩
theorem zeros_not:¬ IsSlab zeros:=fun h=>absurd h.2.2.2 (by decide +kernel)
theorem pack_c (E I:Nat) (b:ByteArray) (w:World) (hE:E < 4294967296) (hI:I < 4294967296) (hb:b.size≤112) :
 Calls Tryz.prog 74 #[.agg #[.int .u32 E,.int .u32 I,.string b]] w fun e w'=>e=.returned (.tuple #[.string (packed E I b),.int .i64 0])∧Below w.heap.size w w':=pack_any E I b w hE hI hb
theorem unpackNo_c (s:ByteArray) (w:World) (h:¬ IsSlab s) :
 Calls Tryz.prog 84 #[.string s] w fun e w'=>e=.returned (.tuple #[.agg #[.int .u32 0,.int .u32 0,.string ⟨#[]⟩],.int .i64 8])∧Below w.heap.size w w':=unpack_no s w h
theorem unpackYes_c (s:ByteArray) (w:World) (h:IsSlab s) :
 Calls Tryz.prog 84 #[.string s] w fun e w'=>e=.returned (.tuple #[.agg #[.int .u32 (partE s),.int .u32 (partI s),.string (partB s)],.int .i64 0])∧Below w.heap.size w w':=unpack_yes s w h
end Go.Proofs.YthkbcfhjmnpggaaGreat

namespace Go.Proofs.YthkbcfhjmnpggaaGreat
open Go.RowKit
theorem allL_some:∀ (n:Nat) (at_:Int) (l:List UInt8) (es:List Ent),allL n at_ l=some es→l=(es.map Prod.snd).flatMap lay∧es=entsOf at_ (es.map Prod.snd)∧∀ r ∈ es.map Prod.snd,May r
 | n,at_,[],es,h=>by
   have:es = []:=by cases n <;> simp [allL] at h <;> exact h
   subst this
   exact ⟨rfl,rfl,fun r hr=>by simp at hr⟩
 | 0,_,_::_,es,h=>by simp [allL] at h
 | n+1,at_,b::l,es,h=>by
   cases hp:recP (b::l) with
   | none=>rw [allL_stop (by simp) hp] at h; cases h
   | some x =>
     have hx:recP (b::l)=some (x.1,x.2):=hp
     obtain ⟨hm,hl⟩:=recP_some hx
     rw [allL_step hx] at h
     cases hr:allL n (at_+((b::l).length:Int) - (x.2.length:Int)) x.2 with
     | none=>rw [hr] at h; cases h
     | some fs =>
       rw [hr] at h
       simp only [Option.map_some,Option.some.injEq] at h
       subst h
       obtain ⟨h1,h2,h3⟩:=allL_some n _ x.2 fs hr
       refine ⟨?_,?_,fun r hr=>?_⟩
       · rw [List.map_cons,List.flatMap_cons,← h1]; exact hl
       ·show (at_,x.1)::fs=(at_,x.1)::entsOf (at_+(lay x.1).length) (fs.map Prod.snd)
        have e:at_+((b::l).length:Int) - (x.2.length:Int)=at_+(lay x.1).length:=by rw [hl]; simp; omega
        rw [e] at h2
        rw [← h2]
       ·rw [List.map_cons,List.mem_cons] at hr
        rcases hr with rfl | hr
        · exact hm
        · exact h3 r hr
theorem entsOf_snd:∀ (at_:Int) (rs:List Rc),(entsOf at_ rs).map Prod.snd=rs
 | _,[]=>rfl
 | at_,r::rs=>by show r::(entsOf _ rs).map Prod.snd=_; rw [entsOf_snd]
theorem entsOf_shift:∀ (at_ d:Int) (rs:List Rc),(entsOf at_ rs).map (fun x=>(x.1+d,x.2))=entsOf (at_+d) rs
 | _,_,[]=>rfl
 | at_,d,r::rs=>by
   show (at_+d,r)::(entsOf (at_+(lay r).length) rs).map _=(at_+d,r)::entsOf (at_+d+(lay r).length) rs
   rw [entsOf_shift,show at_+(lay r).length+d=at_+d+(lay r).length by omega]
theorem entsOf_ge:∀ (at_:Int) (rs:List Rc),(∀ r ∈ rs,May r)→∀ x ∈ entsOf at_ rs,at_≤x.1∧x.1 < at_+(rs.flatMap lay).length
 | _,[],_,x,h=>by simp [entsOf] at h
 | at_,r::rs,hm,x,h=>by
   have hp:=lay_pos (hm r (by simp))
   rw [List.flatMap_cons,List.length_append]
   rcases List.mem_cons.1 h with rfl | h
   · exact ⟨Int.le_refl _,by simp only; omega⟩
   ·have:=entsOf_ge _ rs (fun q hq=>hm q (by simp [hq])) x h
    omega
def body (rs:List Rc):List UInt8:=rs.flatMap lay
def bodyS (rs:List Rc):ByteArray:=⟨(body rs).toArray⟩
theorem bodyS_data (rs:List Rc):(bodyS rs).data.toList=body rs:=rfl
theorem bodyS_size (rs:List Rc):(bodyS rs).size=(body rs).length:=by simp [bodyS,ByteArray.size]
theorem body_snoc (rs:List Rc) (r:Rc):body (rs++[r])=body rs++lay r:=by simp [body]
theorem body_pos {rs:List Rc} (hm:∀ r ∈ rs,May r) (hne:rs≠[]):0 < (body rs).length:=by
 cases rs with
 | nil=>exact absurd rfl hne
 | cons r rs =>
   have:=lay_pos (hm r (by simp))
   simp only [body,List.flatMap_cons,List.length_append]
   omega
theorem allS_body {rs:List Rc} (hm:∀ r ∈ rs,May r):allL (bodyS rs).data.toList.length 0 (bodyS rs).data.toList=some (entsOf 0 rs):=allL_lay rs hm _ 0 (Nat.le_refl _)
def recsOf (b:ByteArray):List Rc:=((allL b.data.toList.length 0 b.data.toList).getD []).map Prod.snd
theorem recsOf_body {rs:List Rc} (hm:∀ r ∈ rs,May r):recsOf (bodyS rs)=rs:=by
 unfold recsOf
 rw [allS_body hm]
 exact entsOf_snd 0 rs
theorem body_recs {b:ByteArray} (h:(allL b.data.toList.length 0 b.data.toList).isSome=true):bodyS (recsOf b)=b∧∀ r ∈ recsOf b,May r:=by
 obtain ⟨es,he⟩:=Option.isSome_iff_exists.1 h
 obtain ⟨h1,h2,h3⟩:=allL_some _ _ _ _ he
 unfold recsOf
 rw [he]
 exact ⟨str_ext (by rw [bodyS_data]; exact h1.symm),h3⟩
structure Wl where
 base:Nat
 size:Nat
 epoch:Nat
 low:Nat
 first:Nat
 secs:List (List Rc)
namespace Wl
def end_ (l:Wl):Nat:=l.low+l.secs.length
structure Ok (l:Wl):Prop where
 s8:8≤l.size
 s64:l.size≤64
 b0:l.base+l.size≤512
 l1:1≤l.low
 lm:l.low≤2147483647
 fl:l.low≤l.first
 fe:l.first≤l.end_
 len:l.secs.length≤l.size
 sec:∀ rs ∈ l.secs,rs≠[]∧(∀ r ∈ rs,May r)∧(body rs).length≤112
 e1:1≤l.epoch
 em:l.epoch≤4294967296
def new (base n:Nat):Wl:=⟨base,n,1,1,1,[]⟩
theorem Ok.new {base n:Nat} (h8:8≤n) (h64:n≤64) (hb:base+n≤512):(Wl.new base n).Ok :=
 ⟨h8,h64,hb,Nat.le_refl _,by simp [Wl.new],Nat.le_refl _,Nat.le_refl _,Nat.zero_le _,fun rs h=>by simp [Wl.new] at h,Nat.le_refl _,by simp [Wl.new]⟩
def joins (l:Wl) (r:Rc):Prop:=l.first < l.end_∧(body (l.secs.getLastD [])).length+(lay r).length≤112
instance (l:Wl) (r:Rc):Decidable (l.joins r):=inferInstanceAs (Decidable (_∧_))
def put (l:Wl) (r:Rc):Wl:=if l.joins r then { l with secs:=l.secs.dropLast++[l.secs.getLastD []++[r]] } else if l.secs.length < l.size then { l with secs:=l.secs++[[r]] } else l
def putE (l:Wl) (r:Rc):Nat:=if l.joins r then 0 else if l.secs.length < l.size then 0 else 5
def putAt (l:Wl) (r:Rc):Nat:=if l.joins r then (l.end_ - 1)*128+(body (l.secs.getLastD [])).length else if l.secs.length < l.size then l.end_*128 else 0
theorem lastD_snoc {α:Type} (l:List α) (x d:α):(l++[x]).getLastD d=x:=by simp
theorem snoc_of {α:Type} {l:List α} (h:0 < l.length):∃ i x,l=i++[x]:=⟨l.dropLast,l.getLast (List.ne_nil_of_length_pos h),(List.dropLast_concat_getLast _).symm⟩
theorem Ok.put {l:Wl} (h:l.Ok) {r:Rc} (hm:May r) (hl:(lay r).length≤112):(l.put r).Ok:=by
 unfold Wl.put
 split
 ·rename_i hj
  have hlt:0 < l.secs.length:=by have:=hj.1; have:=h.fl; unfold Wl.end_ at *; omega
  obtain ⟨i,x,e⟩:=snoc_of hlt
  have hx:=h.sec x (by rw [e]; simp)
  have h2:=hj.2
  rw [e,lastD_snoc] at h2
  refine ⟨h.s8,h.s64,h.b0,h.l1,h.lm,h.fl,?_,?_,fun rs hrs=>?_,h.e1,h.em⟩
  ·have:=h.fe
   unfold Wl.end_ at *
   simp only [e,List.dropLast_concat,lastD_snoc,List.length_append,List.length_singleton] at this ⊢
   exact this
  ·have:=h.len
   simp only [e,List.dropLast_concat,lastD_snoc,List.length_append,List.length_singleton] at this ⊢
   exact this
  ·simp only [e,List.dropLast_concat,lastD_snoc,List.mem_append,List.mem_singleton] at hrs
   rcases hrs with hrs | rfl
   · exact h.sec rs (by rw [e]; simp [hrs])
   ·refine ⟨by simp,fun q hq=>?_,?_⟩
    ·rcases List.mem_append.1 hq with hq | hq
     · exact hx.2.1 q hq
     · simp at hq; subst hq; exact hm
    · rw [body_snoc,List.length_append]; exact h2
 ·split
  ·refine ⟨h.s8,h.s64,h.b0,h.l1,h.lm,h.fl,?_,?_,fun rs hrs=>?_,h.e1,h.em⟩
   ·have:=h.fe
    unfold Wl.end_ at *
    simp only [List.length_append,List.length_singleton]
    omega
   · simp only [List.length_append,List.length_singleton]; omega
   ·rcases List.mem_append.1 hrs with hrs | hrs
    · exact h.sec rs hrs
    ·simp at hrs
     subst hrs
     exact ⟨by simp,fun q hq=>by simp at hq; subst hq; exact hm,by simpa [body] using hl⟩
  · exact h
def allFrom:Nat→List (List Rc)→List Ent
 | _,[]=>[]
 | i,rs::rest=>entsOf ((i*128:Nat):Int) rs++allFrom (i+1) rest
def all (l:Wl):List Ent:=allFrom l.low l.secs
def scan (l:Wl) (from_:Int):List Ent:=l.all.filter fun x=>decide (from_≤x.1)
end Wl
end Go.Proofs.YthkbcfhjmnpggaaGreat

namespace Go.Proofs.YthkbcfhjmnpggaaGreat
open Go.RowKit
def strsV (l:List ByteArray):List Value:=l.map Value.string
def writeCells (x:Nat × ByteArray):List Value:=[.int .i64 x.1,.string x.2]
def waitsV (l:List (Nat × ByteArray)):List Value:=l.flatMap writeCells
def writeV (i:Int) (s:ByteArray):Value:=.agg #[.int .i64 i,.string s]
def lastV (l:List (Nat × ByteArray)) (i:Int):Option Value:=(lastOf l i).map (writeV i)
def diskCells (vs vq:Value) (m:Nat) (gone armed:Bool) (fuse:Int):Array Value:=#[vs,vq,.map (some m),.bool gone,.bool armed,.int .i64 fuse]
def fuseOf (f:Option Nat):Int:=((f.getD 0:Nat):Int)
theorem strsV_len (l:List ByteArray):(strsV l).length=l.length:=by simp [strsV]
theorem waitsV_snoc (l:List (Nat × ByteArray)) (x:Nat × ByteArray):waitsV (l++[x])=waitsV l++writeCells x:=by simp [waitsV]
theorem waitsV_at (l:List (Nat × ByteArray)) (k:Nat) (h:k < l.length):(waitsV l)[k*2]? = some (.int .i64 l[k].1)∧(waitsV l)[k*2+1]? = some (.string l[k].2):=by
 induction l generalizing k with
 | nil=>simp at h
 | cons x l ih =>
   have e:waitsV (x::l)=.int .i64 x.1::.string x.2::waitsV l:=rfl
   rw [e]
   cases k with
   | zero=>exact ⟨rfl,rfl⟩
   | succ k =>
     have:=ih k (by simpa using h)
     rw [show (k+1)*2=k*2+1+1 from by omega]
     simpa using this
structure RawF (w:World) (F:Foot) (g:Nat) (d:Dk) (f:Int→Option Value) (vs vq:Value) (m:Nat):Prop where
 head:Blk w g 89 (diskCells vs vq m d.gone d.fuse.isSome (fuseOf d.fuse))
 safe:w.ownsRow 0 9 1 vs d.safe.length (strsV d.safe)
 wait:w.ownsRow 0 112 2 vq d.waits.length (waitsV d.waits)
 last:IsMap w m f
 fg:F g
 fm:F m
 fs:∀ b,vs.ownBlock=some b→F b
 fq:∀ b,vq.ownBlock=some b→F b
 lt:∀ b,F b→b < w.heap.size
abbrev Raw (w:World) (F:Foot) (g:Nat) (d:Dk) (vs vq:Value) (m:Nat):Prop:=RawF w F g d (lastV d.waits) vs vq m
def IsDisk (w:World) (F:Foot) (g:Nat) (d:Dk):Prop:=d.Ok∧∃ vs vq m,Raw w F g d vs vq m
namespace RawF
variable {w w':World} {F F' F2 F2':Foot} {g:Nat} {d:Dk} {vs vq:Value} {m:Nat} {f:Int→Option Value}
theorem keep (h:RawF w F g d f vs vq m) (hk:∀ b,F b→w'.heap[b]? = w.heap[b]?) (hs:w.heap.size≤w'.heap.size):RawF w' F g d f vs vq m :=
 ⟨(hk g h.fg).trans h.head,own_keep h.safe fun b hb=>hk b (h.fs b hb),own_keep h.wait fun b hb=>hk b (h.fq b hb),h.last.keep (hk m h.fm),h.fg,h.fm,h.fs,h.fq,fun b hb=>Nat.lt_of_lt_of_le (h.lt b hb) hs⟩
theorem below (h:RawF w F g d f vs vq m) (hb:Below w.heap.size w w'):RawF w' F g d f vs vq m:=h.keep (fun b hF=>hb.block b (h.lt b hF)) hb.size
theorem drew (h:RawF w F g d f vs vq m):RawF w.drew F g d f vs vq m:=h.keep (fun _ _=>rfl) (Nat.le_refl _)
theorem cells (h:RawF w F g d f vs vq m):w.cell? ⟨g,0,none⟩=some vs∧w.cell? ⟨g,1,none⟩=some vq∧w.cell? ⟨g,2,none⟩=some (.map (some m))∧w.cell? ⟨g,3,none⟩=some (.bool d.gone) ∧
 w.cell? ⟨g,4,none⟩=some (.bool d.fuse.isSome)∧w.cell? ⟨g,5,none⟩=some (.int .i64 (fuseOf d.fuse)) :=
 ⟨h.head.cell 0,h.head.cell 1,h.head.cell 2,h.head.cell 3,h.head.cell 4,h.head.cell 5⟩
theorem frozen (h:RawF w F g d f vs vq m) (i:Nat):w.frozen? ⟨g,i,none⟩=false:=h.head.frozen i
theorem gm (h:RawF w F g d f vs vq m):g≠m:=h.last.cells h.head
theorem gs (h:RawF w F g d f vs vq m):vs.ownBlock≠some g:=own_blk h.safe h.head (by decide)
theorem gq (h:RawF w F g d f vs vq m):vq.ownBlock≠some g:=own_blk h.wait h.head (by decide)
theorem sq (h:RawF w F g d f vs vq m) {b:Nat} (hb:vs.ownBlock=some b):vq.ownBlock≠some b:=own_apart h.safe h.wait (by decide) hb
theorem sm (h:RawF w F g d f vs vq m):vs.ownBlock≠some m:=own_map h.safe h.last
theorem qm (h:RawF w F g d f vs vq m):vq.ownBlock≠some m:=own_map h.wait h.last
theorem head_set (h:RawF w F g d f vs vq m) (i:Nat) (v:Value):w.ownsRow 0 9 1 vs d.safe.length (strsV d.safe)→Blk (w.setCell ⟨g,i,none⟩ v) g 89 ((diskCells vs vq m d.gone d.fuse.isSome (fuseOf d.fuse)).setIfInBounds i v) ∧
 (w.setCell ⟨g,i,none⟩ v).ownsRow 0 9 1 vs d.safe.length (strsV d.safe)∧(w.setCell ⟨g,i,none⟩ v).ownsRow 0 112 2 vq d.waits.length (waitsV d.waits)∧IsMap (w.setCell ⟨g,i,none⟩ v) m f ∧
 ∀ b,F b→b < (w.setCell ⟨g,i,none⟩ v).heap.size:=fun hs =>
 ⟨h.head.set i v,own_keep hs fun b hb=>heap_setCell_other w _ b v (fun e=>h.gs (by rw [hb,e])),own_keep h.wait fun b hb=>heap_setCell_other w _ b v (fun e=>h.gq (by rw [hb,e])),h.last.keep (heap_setCell_other w _ m v h.gm.symm),fun b hb=>by simpa [World.setCell] using h.lt b hb⟩
theorem setGone (h:RawF w F g d f vs vq m) (x:Bool):RawF (w.setCell ⟨g,3,none⟩ (.bool x)) F g { d with gone:=x } f vs vq m:=by
 obtain ⟨a,b,c,e,l⟩:=h.head_set 3 (.bool x) h.safe
 exact ⟨a,b,c,e,h.fg,h.fm,h.fs,h.fq,l⟩
theorem setArmed (h:RawF w F g d f vs vq m) (i:Nat) (v:Value) {k:Option Nat} {gone:Bool} (e:(diskCells vs vq m d.gone d.fuse.isSome (fuseOf d.fuse)).setIfInBounds i v=diskCells vs vq m gone k.isSome (fuseOf k)) :
 RawF (w.setCell ⟨g,i,none⟩ v) F g { d with gone:=gone,fuse:=k } f vs vq m:=by
 obtain ⟨a,b,c,q,l⟩:=h.head_set i v h.safe
 rw [e] at a
 exact ⟨a,b,c,q,h.fg,h.fm,h.fs,h.fq,l⟩
end RawF
namespace IsDisk
variable {w w':World} {F F' F2 F2':Foot} {g:Nat} {d:Dk}
theorem keep (h:IsDisk w F g d) (hk:∀ b,F b→w'.heap[b]? = w.heap[b]?) (hs:w.heap.size≤w'.heap.size):IsDisk w' F g d:=by
 obtain ⟨ho,vs,vq,m,r⟩:=h
 exact ⟨ho,vs,vq,m,r.keep hk hs⟩
theorem below (h:IsDisk w F g d) (hb:Below w.heap.size w w'):IsDisk w' F g d:=by
 obtain ⟨ho,vs,vq,m,r⟩:=h
 exact ⟨ho,vs,vq,m,r.below hb⟩
theorem lt (h:IsDisk w F g d):∀ b,F b→b < w.heap.size:=by obtain ⟨_,_,_,_,r⟩:=h; exact r.lt
end IsDisk
theorem own_head {w:World} {d:Dk} {vs:Value} (ho:d.Ok) (h:w.ownsRow 0 9 1 vs d.safe.length (strsV d.safe)):∃ s cap,vs=.slice (some ⟨s,0,none⟩) d.safe.length cap∧d.safe.length≤cap:=by
 obtain ⟨s,cap,rfl,h1,_⟩:=own_form h ho.pos
 exact ⟨s,cap,rfl,h1⟩
section
variable {w:World} {F:Foot} {g:Nat} {d:Dk}
set_option maxRecDepth 100000 in
set_option maxHeartbeats 1000000 in
theorem has_any (h:IsDisk w F g d) (i:Int) (b:Bool) (hb:b=decide (d.has i)) :
 Calls Tryz.prog 107 #[.pointer (some ⟨g,0,none⟩),.int .i64 i] w fun e w'=>e=.returned (.bool b)∧w=w':=by
 obtain ⟨ho,vs,vq,m,r⟩:=h
 obtain ⟨s,cap,rfl,hc⟩:=own_head ho r.safe
 obtain ⟨c0,_⟩:=r.cells
 have hn:=ho.le
 have hdec:∀ p:Prop,[Decidable p]→(p↔d.has i)→b=decide p:=fun p _ hp=>by rw [hb]; exact decide_eq_decide.2 hp.symm
 unfold Dk.has at hdec
 have HD:=hdec
 clear hdec hb r ho
 generalize d.safe.length=n at *
 by_cases h0:0≤i
 ·by_cases h1:i < n
  ·obtain rfl:b=true:=by rw [HD True ⟨fun _=>⟨h0,h1⟩,fun _=>trivial⟩]; rfl
   have hd:decide (i < (n:Int))=true:=by simpa using h1
   clear HD
   go_enter Tryz.func107,Tryz.ntmps107
   go_wp2
   go_ret
   exact ⟨rfl,rfl⟩
  ·obtain rfl:b=false:=by rw [HD False ⟨fun k=>k.elim,fun k=>h1 k.2⟩]; rfl
   have hd:decide (i < (n:Int))=false:=by simpa using h1
   clear HD
   go_enter Tryz.func107,Tryz.ntmps107
   go_wp2
   go_ret
   exact ⟨rfl,rfl⟩
 ·obtain rfl:b=false:=by rw [HD False ⟨fun k=>k.elim,fun k=>h0 k.1⟩]; rfl
  have hd:decide (0≤i)=false:=by simpa using h0
  clear HD
  go_enter Tryz.func107,Tryz.ntmps107
  go_wp2
  go_ret
  exact ⟨rfl,rfl⟩
end
end Go.Proofs.YthkbcfhjmnpggaaGreat
