/- Texts that belong together, joined: RecS, Four, RecSb. -/
import Derived.Test.YtbplgbkbggmaeaaGreatKrec
import Derived.Test.YtbplgbkbggmaeaaGreatKbase
namespace Go.Proofs.YtbplgbkbggmaeaaGreat
open Go.RowKit
def intsV (l : List Int) : Array Value := (l.map (Value.int .i64)).toArray
def allNum (l : List Int) : Bool := l.all fun n => decide (Num n)
theorem allNum_no {l : List Int} {k : Nat} (h : k < l.length) (hn : ¬ Num l[k]) : allNum l = false := by
 unfold allNum
 rw [List.all_eq_false]
 exact ⟨l[k], List.getElem_mem h, by simpa using hn⟩
theorem allNum_yes {l : List Int} (h : ∀ k (hk : k < l.length), Num l[k]) : allNum l = true := by
 unfold allNum
 rw [List.all_eq_true]
 intro x hx
 obtain ⟨k, hk, rfl⟩ := List.mem_iff_getElem.1 hx
 simpa using h k hk
set_option maxRecDepth 100000 in
set_option maxHeartbeats 4000000 in
theorem num_any {w : World} {g : Nat} {l : List Int} (hb : Blk w g 3 (intsV l)) (hl : l.length ≤ 100) (yes : Bool) (hy : yes = allNum l) :
   Calls Tryz.prog 81 #[.slice (some ⟨g, 0, none⟩) l.length l.length] w fun e w' => e = .returned (.bool yes) ∧ w = w' := by
 have HY := Lib.hid hy
 have HB := Lib.hid hb
 clear hy hb
 go_enter Tryz.func81, Tryz.ntmps81
 go_wp2
 go_loopw [3] (fun vk wr => ∃ k : Nat, k ≤ l.length ∧ vk = .int .i64 k ∧ (∀ j (hj : j < l.length), j < k → Num l[j]) ∧ w = wr) (fun vk _ => l.length - (intOf vk).toNat)
 case atStart => exact ⟨0, Nat.zero_le _, rfl, fun j _ h => by omega, rfl⟩
 case round =>
   obtain ⟨k, hk, rfl, hno, rfl⟩ := hrel
   have HNO := Lib.hid hno
   clear hno
   by_cases hlt : k < l.length
   · have c := HB.out.cell k
     rw [show (intsV l)[k]? = some (.int .i64 l[k]) from by simp [intsV, hlt]] at c
     by_cases hn : Num l[k]
     · have HN2 : Hid (∀ j (hj : j < l.length), j < k + 1 → Num l[j]) := fun j hj hjk => by
         by_cases e : j = k
         · subst e; exact hn
         · exact HNO.out j hj (by omega)
       obtain ⟨h1, h2⟩ := hn
       generalize l[k] = x at *
       have h3 : ¬ x < 0 := by omega
       go_wp2
       go_roundw
       case rel => exact ⟨k + 1, by omega, by go_num, HN2.out, by first | rfl | trivial⟩
       case measure => simp [intOf]; omega
     · have hno : yes = false := by rw [HY.out]; exact allNum_no hlt hn
       subst hno
       unfold Num at hn
       clear HY HNO
       generalize l[k] = x at *
       go_wp2
       all_goals
         go_ret
         exact ⟨rfl, rfl⟩
   · have hyes : yes = true := by rw [HY.out]; exact allNum_yes fun j hj => HNO.out j hj (by omega)
     subst hyes
     clear HY HNO
     go_wp2
     go_ret
     exact ⟨rfl, rfl⟩
theorem spot_iff (r : Rc) : Spot r.page r.off r.after ↔ (0 ≤ r.page ∧ r.page ≤ 7) ∧ 0 ≤ r.off ∧ r.off ≤ 220 ∧ (1 ≤ (r.after.size : Int) ∧ (r.after.size : Int) ≤ 16) ∧ r.off + (r.after.size : Int) ≤ 220 := by
 unfold Spot
 omega
set_option maxRecDepth 100000 in
set_option maxHeartbeats 4000000 in
theorem refSpot_any {w : World} {v : Value} {r : Rc} (hv : IsRec w v r) (hs : r.after.size ≤ maxLen) (yes : Bool) (hy : yes = decide (Spot r.page r.off r.after)) :
   Calls Tryz.prog 82 #[v] w fun e w' => e = .returned (.bool yes) ∧ Below w.heap.size w w' := by
 obtain ⟨vt, vp, rfl, hl⟩ := hv
 have HY := Lib.hid hy
 clear hy hl
 unfold maxLen at hs
 unfold recV recCells
 go_enter Tryz.func82, Tryz.ntmps82
 go_wp2
 all_goals first
   | (have hno : yes = false := by
        rw [HY.out]
        exact decide_eq_false (fun h => by rw [spot_iff] at h; omega)
      subst hno
      clear HY
      go_ret
      exact ⟨rfl, (Below.refl _ _).alloc (Nat.le_refl _) _⟩)
   | (have hq : yes = decide (r.off + (r.after.size : Int) ≤ 220) := by
        rw [HY.out]
        exact decide_eq_decide.2 (by rw [spot_iff]; omega)
      have HQ := Lib.hid hq
      clear HY hq
      go_ret
      refine ⟨?_, (Below.refl _ _).alloc (Nat.le_refl _) _⟩
      show Ending.returned (.bool (decide (r.off + (r.after.size : Int) ≤ 220))) = _
      rw [HQ.out])
end Go.Proofs.YtbplgbkbggmaeaaGreat

namespace Go.Proofs.YtbplgbkbggmaeaaGreat
open Go.RowKit
theorem conv4 (w : World) (x0 x1 x2 x3 : Nat) (a b c d : Int) (ha : a = (x0 : Int) % 256) (hb : b = (x1 : Int) % 256) (hc : c = (x2 : Int) % 256) (hd : d = (x3 : Int) % 256) :
   (convert 136 9 (.slice (some ⟨w.heap.size, 0, none⟩) 4 4)).run Tryz.prog (w.alloc (.cells #[.int .u8 a, .int .u8 b, .int .u8 c, .int .u8 d] 5)) =
     .ok (.string ⟨([UInt8.ofNat x0, UInt8.ofNat x1, UInt8.ofNat x2, UInt8.ofNat x3] : List UInt8).toArray⟩) (w.alloc (.cells #[.int .u8 a, .int .u8 b, .int .u8 c, .int .u8 d] 5)) := by
 have e : #[Value.int .u8 a, .int .u8 b, .int .u8 c, .int .u8 d] = bytesV [UInt8.ofNat x0, UInt8.ofNat x1, UInt8.ofNat x2, UInt8.ofNat x3] := by
   simp [bytesV, ha, hb, hc, hd]
 rw [e]
 exact conv_blk (Blk.new w 5 _) 0 4 4 (by simp) 136 5 9 Tryz.underlying136 Tryz.underlying5 Tryz.underlying9
set_option maxRecDepth 100000 in
set_option maxHeartbeats 1000000 in
theorem four_any (n : Nat) (hn : n < 4294967296) (w : World) :
   Calls Tryz.prog 111 #[.int .u32 n] w fun e w' => e = .returned (.string ⟨(be4 n).toArray⟩) ∧ Below w.heap.size w w' := by
 have hc := conv4 w (n / 16777216) (n / 65536) (n / 256) n ((n : Int) / 16777216) ((n : Int) / 65536 % 256) ((n : Int) / 256 % 256) ((n : Int) % 256) (by omega) (by omega) (by omega) (by omega)
 go_enter Tryz.func111, Tryz.ntmps111
 go_wp2
 go_ret
 exact ⟨rfl, (Below.refl _ _).alloc (Nat.le_refl _) _⟩
end Go.Proofs.YtbplgbkbggmaeaaGreat

namespace Go.Proofs.YtbplgbkbggmaeaaGreat
open Go.RowKit
set_option maxRecDepth 100000 in
set_option maxHeartbeats 2000000 in
theorem refSmall_any (n : Int) (w : World) :
   Calls Tryz.prog 84 #[.int .i64 n] w fun e w' => e = .returned (.string ⟨[lowI n].toArray⟩) ∧ Below w.heap.size w w' := by
 have hc := conv_blk (Blk.new w 5 (bytesV [lowI n])) 0 1 1 (by simp) 136 5 9 Tryz.underlying136 Tryz.underlying5 Tryz.underlying9
 rw [show bytesV [lowI n] = #[.int .u8 (n % 256)] from by simp [bytesV, lowI]; omega] at hc
 rw [show List.take 1 (List.drop 0 [lowI n]) = [lowI n] from rfl] at hc
 generalize [lowI n] = l at *
 go_enter Tryz.func84, Tryz.ntmps84
 go_wp2
 go_ret
 exact ⟨rfl, (Below.refl _ _).alloc (Nat.le_refl _) _⟩
set_option maxRecDepth 100000 in
set_option maxHeartbeats 2000000 in
theorem refFour_any (n : Int) (w : World) :
   Calls Tryz.prog 85 #[.int .i64 n] w fun e w' => e = .returned (.string ⟨(beI n).toArray⟩) ∧ Below w.heap.size w w' := by
 have hx : n % 4294967296 = (((n % 4294967296).toNat : Nat) : Int) := by omega
 have H4 := Lib.hid (fun W => four_any (n % 4294967296).toNat (by omega) W)
 have hd : (⟨(be4 (n % 4294967296).toNat).toArray⟩ : ByteArray) = ⟨(beI n).toArray⟩ := rfl
 rw [hd] at H4
 clear hd
 generalize (⟨(beI n).toArray⟩ : ByteArray) = s at *
 generalize (n % 4294967296).toNat = m at *
 go_enter Tryz.func85, Tryz.ntmps85
 go_wp2_with fail
 refine (H4.out _).mono ?_
 rintro e w1 ⟨rfl, hb⟩
 have HB := Lib.hid hb
 clear hb
 go_wp2
 go_ret
 exact ⟨rfl, HB.out⟩
end Go.Proofs.YtbplgbkbggmaeaaGreat
