/- Texts that belong together, joined: Four, RecSb. -/
import Derived.Test.YthkbcfhjmnpggaaGreatK01
namespace Go.Proofs.YthkbcfhjmnpggaaGreat
open Go.RowKit
theorem conv4 (w:World) (x0 x1 x2 x3:Nat) (a b c d:Int) (ha:a=(x0:Int) % 256) (hb:b=(x1:Int) % 256) (hc:c=(x2:Int) % 256) (hd:d=(x3:Int) % 256) :
 (convert 47 9 (.slice (some ⟨w.heap.size,0,none⟩) 4 4)).run Tryz.prog (w.alloc (.cells #[.int .u8 a,.int .u8 b,.int .u8 c,.int .u8 d] 5)) =
   .ok (.string ⟨([UInt8.ofNat x0,UInt8.ofNat x1,UInt8.ofNat x2,UInt8.ofNat x3]:List UInt8).toArray⟩) (w.alloc (.cells #[.int .u8 a,.int .u8 b,.int .u8 c,.int .u8 d] 5)):=by
 have e:#[Value.int .u8 a,.int .u8 b,.int .u8 c,.int .u8 d]=bytesV [UInt8.ofNat x0,UInt8.ofNat x1,UInt8.ofNat x2,UInt8.ofNat x3]:=by
  simp [bytesV,ha,hb,hc,hd]
 rw [e]
 exact conv_blk (Blk.new w 5 _) 0 4 4 (by simp) 47 5 9 Tryz.underlying47 Tryz.underlying5 Tryz.underlying9
set_option maxRecDepth 100000 in
set_option maxHeartbeats 1000000 in
theorem four_any (n:Nat) (hn:n < 4294967296) (w:World) :
 Calls Tryz.prog 79 #[.int .u32 n] w fun e w'=>e=.returned (.string ⟨(be4 n).toArray⟩)∧Below w.heap.size w w':=by
 have hc:=conv4 w (n / 16777216) (n / 65536) (n / 256) n ((n:Int) / 16777216) ((n:Int) / 65536 % 256) ((n:Int) / 256 % 256) ((n:Int) % 256) (by omega) (by omega) (by omega) (by omega)
 go_enter Tryz.func79,Tryz.ntmps79
 go_wp2
 go_ret
 exact ⟨rfl,(Below.refl _ _).alloc (Nat.le_refl _) _⟩
end Go.Proofs.YthkbcfhjmnpggaaGreat

namespace Go.Proofs.YthkbcfhjmnpggaaGreat
open Go.RowKit
set_option maxRecDepth 100000 in
set_option maxHeartbeats 2000000 in
theorem refSmall_any (n:Int) (w:World) :
 Calls Tryz.prog 72 #[.int .i64 n] w fun e w'=>e=.returned (.string ⟨[lowI n].toArray⟩)∧Below w.heap.size w w':=by
 have hc:=conv_blk (Blk.new w 5 (bytesV [lowI n])) 0 1 1 (by simp) 47 5 9 Tryz.underlying47 Tryz.underlying5 Tryz.underlying9
 rw [show bytesV [lowI n]=#[.int .u8 (n % 256)] from by simp [bytesV,lowI]; omega] at hc
 rw [show List.take 1 (List.drop 0 [lowI n]) = [lowI n] from rfl] at hc
 generalize [lowI n]=l at *
 go_enter Tryz.func72,Tryz.ntmps72
 go_wp2
 go_ret
 exact ⟨rfl,(Below.refl _ _).alloc (Nat.le_refl _) _⟩
set_option maxRecDepth 100000 in
set_option maxHeartbeats 2000000 in
theorem refFour_any (n:Int) (w:World) :
 Calls Tryz.prog 73 #[.int .i64 n] w fun e w'=>e=.returned (.string ⟨(beI n).toArray⟩)∧Below w.heap.size w w':=by
 have hx:n % 4294967296=(((n % 4294967296).toNat:Nat):Int):=by omega
 have H4:=Lib.hid (fun W=>four_any (n % 4294967296).toNat (by omega) W)
 have hd:(⟨(be4 (n % 4294967296).toNat).toArray⟩:ByteArray)=⟨(beI n).toArray⟩:=rfl
 rw [hd] at H4
 clear hd
 generalize (⟨(beI n).toArray⟩:ByteArray)=s at *
 generalize (n % 4294967296).toNat=m at *
 go_enter Tryz.func73,Tryz.ntmps73
 go_wp2_with fail
 refine (H4.out _).mono ?_
 rintro e w1 ⟨rfl,hb⟩
 have HB:=Lib.hid hb
 clear hb
 go_wp2
 go_ret
 exact ⟨rfl,HB.out⟩
end Go.Proofs.YthkbcfhjmnpggaaGreat
