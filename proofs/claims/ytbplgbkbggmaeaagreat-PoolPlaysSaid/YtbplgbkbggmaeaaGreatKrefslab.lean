/- Texts that belong together, joined: SlabBr, SlabD, SlabFr. -/
import Derived.Test.YtbplgbkbggmaeaaGreatKslab
import Derived.Test.YtbplgbkbggmaeaaGreatKrecs
import Derived.Test.YtbplgbkbggmaeaaGreatKreg
import Derived.Test.YtbplgbkbggmaeaaGreatKbase
namespace Go.Proofs.YtbplgbkbggmaeaaGreat
open Go.RowKit
theorem refStep_odd {m : Nat} (h : m < 4294967296) (ho : ((m : Int) % 2 == 1) = true) : bits .xor .u32 ((m : Int) / 2) 3988292384 = (Crc.step m : Nat) := by
 have h1 : m % 2 = 1 := by simp at ho; omega
 rw [xor_poly m h, Crc.step, if_pos h1]
theorem refStep_even {m : Nat} (ho : ((m : Int) % 2 == 1) = false) : ((m : Int) / 2) = (Crc.step m : Nat) := by
 have h1 : ¬ m % 2 = 1 := by simp at ho; omega
 rw [Crc.step, if_neg h1]
 simp
set_option maxRecDepth 100000 in
set_option maxHeartbeats 1000000 in
theorem refSum_any (s : ByteArray) (w : World) (hs : s.size ≤ maxLen) :
   Calls Tryz.prog 121 #[.string s] w fun e w' => e = .returned (.int .u32 (Crc.sum s.data.toList : Nat)) ∧ Below w.heap.size w w' := by
 unfold maxLen at hs
 go_enter Tryz.func121, Tryz.ntmps121
 go_wp2
 go_loop [3, 4, 5] (fun n i _ => ∃ k : Nat, k ≤ s.size ∧ i = .int .i64 k ∧ n = .int .u32 (crcTo s k : Nat)) (fun _ i _ => s.size - (intOf i).toNat)
 case atStart => exact ⟨0, Nat.zero_le _, rfl, rfl⟩
 case round =>
   obtain ⟨k, hk', rfl, rfl⟩ := hrel
   have hl := crcTo_lt s k
   have hL := Lib.hid hl
   by_cases hlt : k < s.size
   · have hbyte : (s[k].toNat : Int) < 256 := by have := s[k].toNat_lt; omega
     have hx := xor_u32 (a := crcTo s k) (b := s[k].toNat) hl (by have := s[k].toNat_lt; omega)
     have hxl := Crc.xor_lt (a := crcTo s k) (b := s[k].toNat) hl (by have := s[k].toNat_lt; omega)
     have hS : Hid (stepN 8 (crcTo s k ^^^ s[k].toNat) = crcTo s (k + 1)) := by
       show _ = _
       rw [crcTo_succ s k hlt]
       rfl
     clear hl
     generalize crcTo s k ^^^ s[k].toNat = m0 at *
     have hM := Lib.hid hxl
     clear hxl
     go_wp2
     clear hx
     go_loop [3, 5] (fun n i => ∃ j : Nat, j ≤ 8 ∧ i = .int .i64 j ∧ n = .int .u32 (stepN j m0 : Nat)) (fun _ i => 8 - (intOf i).toNat)
     case atStart => exact ⟨0, by omega, rfl, rfl⟩
     case round =>
       obtain ⟨j, hj, rfl, rfl⟩ := hrel
       have hq := stepN_lt hM.out j
       by_cases h8 : j < 8
       · go_wp2
         · go_round
           case rel => exact ⟨j + 1, by omega, by go_num, by rw [refStep_odd hq (by assumption)]; rfl⟩
           case measure => simp [intOf]; omega
         · go_round
           case rel => exact ⟨j + 1, by omega, by go_num, by rw [refStep_even (by assumption)]; rfl⟩
           case measure => simp [intOf]; omega
       · have hj8 : j = 8 := by omega
         subst hj8
         go_wp2
         go_round
         case rel => exact ⟨k + 1, by omega, by go_num, by rw [← hS.out]⟩
         case measure => simp [intOf]; omega
   · clear hl
     obtain rfl : k = s.size := by omega
     have hn := Lib.hid (not_u32 hL.out)
     have hf := Lib.hid (show crcTo s s.size = Crc.run 4294967295 s.data.toList by unfold crcTo; rw [List.take_of_length_le (by simp)])
     go_wp2
     go_ret
     exact ⟨by rw [hn.out, hf.out]; rfl, Below.refl _ _⟩
end Go.Proofs.YtbplgbkbggmaeaaGreat

namespace Go.Proofs.YtbplgbkbggmaeaaGreat
open Go.RowKit
def strSize : Value → Nat
 | .string s => s.size
 | _ => 0
set_option maxRecDepth 100000 in
set_option maxHeartbeats 2000000 in
theorem refPack_any (E I : Nat) (s : ByteArray) (w : World) (hE : E < 4294967296) (hI : I < 4294967296) (hl : s.size ≤ 112) :
   Calls Tryz.prog 97 #[.agg #[.int .u32 E, .int .u32 I, .string s]] w fun e w' => e = .returned (.string ⟨(sect E I s).toArray⟩) ∧ Below w.heap.size w w' := by
 go_enter Tryz.func97, Tryz.ntmps97
 go_wp2
 have hb0 := Blk.new w 138 #[.int .u32 E, .int .u32 I, .string s]
 have hB0 : Below w.heap.size w (w.alloc (.cells #[.int .u32 E, .int .u32 I, .string s] 138)) := (Below.refl _ _).alloc (Nat.le_refl _) _
 generalize hg : w.heap.size = g at *
 have hG := Lib.hid hg
 clear hg
 generalize w.alloc (.cells #[.int .u32 E, .int .u32 I, .string s] 138) = w1 at *
 have e18 : #[Value.int .u8 0, .int .u8 s.size, .int .u8 0, .int .u8 0] = bytesV [0, UInt8.ofNat s.size, 0, 0] := by
   simp [bytesV]; omega
 have H18 := Lib.hid e18
 clear e18
 have hadd : ∀ W, (Op.stringOp .add (({ data := (be4 E).toArray } : ByteArray) ++ { data := (be4 I).toArray } ++ { data := #[0, UInt8.ofNat s.size, 0, 0] }) s).run Tryz.prog W = .ok (.string (({ data := (be4 E).toArray } : ByteArray) ++ { data := (be4 I).toArray } ++ { data := #[0, UInt8.ofNat s.size, 0, 0] } ++ s)) W := fun W =>
   run_string_add_sum W _ _ (by
     have e : (({ data := (be4 E).toArray } : ByteArray) ++ { data := (be4 I).toArray } ++ { data := #[0, UInt8.ofNat s.size, 0, 0] }).size = 12 := by rw [ByteArray.size_append, ByteArray.size_append]; rfl
     omega)
 refine' wp_region_conf 16 [.is _, .is _, .is _, .is _, .is _, .is _, .is _, .is _, .is _, .slice w1.heap.size 4 5 (bytesV [0, UInt8.ofNat s.size, 0, 0]), .is _, .is _, .is _, .is _, .is _, .is _] (by kernel_rfl) (by kernel_rfl) (by kernel_rfl) (by kernel_rfl) rfl ?main
 case main =>
   iterate 9
     refine obs_is (fun w2 hE2 _ => ?_) ?_
     · have hb2 := hb0.drew.keep hE2 hb0.lt
       have c0 := hb2.cellAt (i := 0) (by simp)
       have c1 := hb2.cellAt (i := 1) (by simp)
       simp at c0 c1
       clear hb2
       go_wp2_with (go_at_call 111; refine (four_any _ (by first | exact hE | exact hI) _).mono ?_; rintro e w3 ⟨rfl, hb3⟩)
       first | exact post_is hb3 | exact post_is (Below.refl _ _)
     simp only [Act.put, sA, sB, sC]
   refine obs_slice (fun w2 hE2 _ => ?_) (fun x => ?_)
   · go_wp2
     exact ⟨_, rfl, ⟨w2.heap.size, hE2.size, rfl, by rw [← H18.out]; exact Blk.new _ _ _⟩, (Below.refl _ _).alloc (Nat.le_refl _) _⟩
   simp only [Act.put, sA, sB, sC]
   refine obs_is (fun w2 hE2 hk => ?_) ?_
   · obtain ⟨g2, hg2, rfl, hb2⟩ := hk _ (List.mem_cons_self) (by kernel_rfl)
     have hc := conv_blk hb2 0 4 4 (by simp) 136 5 9 Tryz.underlying136 Tryz.underlying5 Tryz.underlying9
     clear hk
     go_wp2
     exact post_is (Below.refl _ _)
   simp only [Act.put, sA, sB, sC]
   iterate 5
     refine obs_is (fun w2 hE2 _ => ?_) ?_
     · have hb2 := hb0.drew.keep hE2 hb0.lt
       have c2 := hb2.cellAt (i := 2) (by simp)
       simp at c2
       clear hb2
       go_wp2
       exact post_is (Below.refl _ _)
     simp only [Act.put, sA, sB, sC]
   refine obs_end fun w3 hE3 _ => ?_
   have hB3 : Below w.heap.size w w3 := by rw [hG.out]; exact hB0.drew.trans (hE3.mono (by rw [← hG.out]; exact hB0.size))
   clear hb0 hB0 hE3 H18 hadd
   have hdat : (({ data := (be4 E).toArray } : ByteArray) ++ { data := (be4 I).toArray } ++ { data := #[0, UInt8.ofNat s.size, 0, 0] } ++ s).data.toList = be4 E ++ be4 I ++ [0, UInt8.ofNat s.size, 0, 0] ++ s.data.toList := by
     simp only [ByteArray.data_append, Array.toList_append]
   generalize (({ data := (be4 E).toArray } : ByteArray) ++ { data := (be4 I).toArray } ++ { data := #[0, UInt8.ofNat s.size, 0, 0] } ++ s) = base at *
   have HD := Lib.hid hdat
   clear hdat
   go_wp2
   go_loop [4] (fun x => ∃ (k : Nat) (t : ByteArray), k ≤ 112 - s.size ∧ x = .string t ∧ Hid (t.data.toList = base.data.toList ++ List.replicate k 0)) (fun x => 124 - strSize x)
   case atStart => exact ⟨0, base, by omega, rfl, by show _ = _; simp⟩
   case round =>
     obtain ⟨k, t, hk, rfl, ht⟩ := hrel
     have hts : t.size = 12 + s.size + k := by
       rw [← size_bytes, ht.out, HD.out]
       simp [be4_len]
       omega
     by_cases hlt : k < 112 - s.size
     · have h1 : (t.size : Int) < 124 := by omega
       have hTS := Lib.hid hts
       clear hts
       have hadd : ∀ W, (Op.stringOp .add t { data := #[0] }).run Tryz.prog W = .ok (.string (t ++ { data := #[0] })) W := fun W =>
         run_string_add_sum W _ _ (by have e : ({ data := #[0] } : ByteArray).size = 1 := rfl; omega)
       go_wp2
       go_round
       case rel => exact ⟨k + 1, _, by omega, rfl, by
         show _ = _
         rw [ByteArray.data_append, Array.toList_append, ht.out, List.append_assoc, List.replicate_succ']⟩
       case measure =>
         have e : (t ++ { data := #[0] }).size = t.size + 1 := by rw [ByteArray.size_append]; rfl
         simp only [strSize, e]
         omega
     · have h1 : ¬ (t.size : Int) < 124 := by omega
       have hm : t.size ≤ maxLen := by unfold maxLen; omega
       have hadd : ∀ W c, (Op.stringOp .add t { data := (le4 c).toArray }).run Tryz.prog W = .ok (.string (t ++ { data := (le4 c).toArray })) W := fun W c =>
         run_string_add_sum W _ _ (by have e : ({ data := (le4 c).toArray } : ByteArray).size = 4 := rfl; omega)
       have htf : Hid (t.data.toList = front E I s) := by
         show _ = _
         rw [ht.out, HD.out, show k = 112 - s.size from by omega]
         rfl
       clear hts ht
       have hcl := Crc.sum_lt t.data.toList
       go_wp2_with fail
       refine (refSum_any t _ hm).mono ?_
       rintro e w4 ⟨rfl, hb4⟩
       have hfin := sect_eq E I s hl
       rw [← htf.out] at hfin
       have HF := Lib.hid hfin
       clear hfin
       generalize Crc.sum t.data.toList = c at *
       have hc := conv4 w4 c (c / 256) (c / 65536) (c / 16777216) ((c : Int) % 256) ((c : Int) / 256 % 256) ((c : Int) / 65536 % 256) ((c : Int) / 16777216) (by omega) (by omega) (by omega) (by omega)
       rw [show [UInt8.ofNat c, UInt8.ofNat (c / 256), UInt8.ofNat (c / 65536), UInt8.ofNat (c / 16777216)] = le4 c from rfl] at hc
       go_wp2
       go_ret
       refine ⟨?_, (below2 hB3 hb4).trans ((Below.refl _ _).alloc (below2 hB3 hb4).size _)⟩
       show Ending.returned (.string (t ++ { data := (le4 c).toArray })) = _
       congr 2
       apply str_ext
       rw [HF.out, ByteArray.data_append, Array.toList_append]
end Go.Proofs.YtbplgbkbggmaeaaGreat

namespace Go.Proofs.YtbplgbkbggmaeaaGreat
open Go.RowKit
theorem num4_take (l : List UInt8) : num4 (l.take 4) = num4 l := by
 unfold num4
 simp [List.getD_eq_getElem?_getD]
set_option maxRecDepth 100000 in
set_option maxHeartbeats 2000000 in
theorem refUnpack_size (s : ByteArray) (w : World) (h : s.size ≠ 128) :
   Calls Tryz.prog 92 #[.string s] w fun e w' => e = .returned (.tuple #[noSlab, .bool false]) ∧ Below w.heap.size w w' := by
 have h1 : ((s.size : Int) != 128) = true := by simp; omega
 go_enter Tryz.func92, Tryz.ntmps92
 go_wp2
 exact bodyPost_ret (results_row_tmp rfl _ _ w.heap.size 138 _ _ rfl (Blk.new _ _ _) Tryz.underlying138 rfl (by kernel_rfl)) rfl ⟨rfl, (Below.refl _ _).alloc (Nat.le_refl _) _⟩
set_option maxRecDepth 100000 in
set_option maxHeartbeats 2000000 in
theorem refUnpack_eight (s : ByteArray) (w : World) (h : Hid (s.size = 128)) (h8 : 8 < s.size) (hz : ((s[8].toNat : Int) != 0) = true) :
   Calls Tryz.prog 92 #[.string s] w fun e w' => e = .returned (.tuple #[noSlab, .bool false]) ∧ Below w.heap.size w w' := by
 have h1 : ((s.size : Int) != 128) = false := by simp [h.out]
 have i8 : (8 : Int) < s.size := by omega
 go_enter Tryz.func92, Tryz.ntmps92
 go_wp2
 exact bodyPost_ret (results_row_tmp rfl _ _ w.heap.size 138 _ _ rfl (Blk.new _ _ _) Tryz.underlying138 rfl (by kernel_rfl)) rfl ⟨rfl, (Below.refl _ _).alloc (Nat.le_refl _) _⟩
set_option maxRecDepth 100000 in
set_option maxHeartbeats 2000000 in
theorem refUnpack_nine (s : ByteArray) (w : World) (h : Hid (s.size = 128)) (h8 : 8 < s.size) (h9 : 9 < s.size) (hz : ((s[8].toNat : Int) != 0) = false) (hn : (112 : Int) < s[9].toNat) :
   Calls Tryz.prog 92 #[.string s] w fun e w' => e = .returned (.tuple #[noSlab, .bool false]) ∧ Below w.heap.size w w' := by
 have h1 : ((s.size : Int) != 128) = false := by simp [h.out]
 have i8 : (8 : Int) < s.size := by omega
 have i9 : (9 : Int) < s.size := by omega
 go_enter Tryz.func92, Tryz.ntmps92
 go_wp2
 exact bodyPost_ret (results_row_tmp rfl _ _ w.heap.size 138 _ _ rfl (Blk.new _ _ _) Tryz.underlying138 rfl (by kernel_rfl)) rfl ⟨rfl, (Below.refl _ _).alloc (Nat.le_refl _) _⟩
set_option maxRecDepth 100000 in
set_option maxHeartbeats 4000000 in
theorem refUnpack_rest (s : ByteArray) (w : World) (h : Hid (s.size = 128)) (h8 : 8 < s.size) (h9 : 9 < s.size) (hz : ((s[8].toNat : Int) != 0) = false) (n : Nat) (hn : Hid (n = s[9].toNat)) (hle : n ≤ 112) (yes : Bool)
   (hyes : (sect (partE s) (partI s) (s.extract 12 (12 + n)) = s.data.toList) ↔ yes = true) :
   Calls Tryz.prog 92 #[.string s] w fun e w' => e = .returned (.tuple (if yes then #[slabV (partE s) (partI s) (s.extract 12 (12 + n)), .bool true] else #[noSlab, .bool false])) ∧ Below w.heap.size w w' := by
 have h1 : ((s.size : Int) != 128) = false := by simp [h.out]
 have i8 : (8 : Int) < s.size := by omega
 have i9 : (9 : Int) < s.size := by omega
 have hsz : 128 ≤ s.size := by rw [h.out]; omega
 have hv : (s[9].toNat : Int) = n := by rw [hn.out]
 go_enter Tryz.func92, Tryz.ntmps92
 go_wp2
 have hsl := slice_str (P := Tryz.prog) 9 Tryz.underlying9 s 12 (12 + n) .i64 .i64 12 (12 + (n : Int)) (by omega) (by omega) (by omega) (by omega)
 have hsl4 := slice_str (P := Tryz.prog) 9 Tryz.underlying9 s 4 8 .i64 .i64 4 8 rfl rfl (by omega) (by omega)
 have hx0 : 4 ≤ (s.extract 0 4).size := by rw [ByteArray.size_extract]; omega
 have hx4 : 4 ≤ (s.extract 4 8).size := by rw [ByteArray.size_extract]; omega
 have hr0 := (Blk.new w 138 #[.int .u32 0, .int .u32 0, .string ⟨#[]⟩])
 have hB0 := ((Below.refl w.heap.size w).alloc (Nat.le_refl _) (.cells #[.int .u32 0, .int .u32 0, .string ⟨#[]⟩] 138))
 generalize hg : w.heap.size = g at *
 have hG := Lib.hid hg
 clear hg
 generalize (w.alloc (.cells #[.int .u32 0, .int .u32 0, .string ⟨#[]⟩] 138)) = w1 at *
 refine' wp_region_conf 14 [.is _, .is _, .is _, .is _, .is _, .is _, .is _, .is _, .is _, .is _, .is _, .is _, .is _, .ptr w1.heap.size 138 #[.int .u32 0, .int .u32 0, .string ⟨#[]⟩]] (by kernel_rfl) (by kernel_rfl) (by kernel_rfl) (by kernel_rfl) rfl ?main
 case main =>
   iterate 2
     refine obs_is (fun w2 hE2 _ => ?_) ?_
     · go_wp2
       exact post_is (Below.refl _ _)
     simp only [Act.put, sA, sB, sC]
   refine obs_is (fun w2 hE2 _ => ?_) ?_
   · go_wp2_with fail
     refine (number_any (s.extract 0 4) _ hx0).mono ?_
     rintro e w3 ⟨rfl, hb3⟩
     go_wp2
     exact post_is hb3
   simp only [Act.put, sA, sB, sC]
   iterate 2
     refine obs_is (fun w2 hE2 _ => ?_) ?_
     · go_wp2
       exact post_is (Below.refl _ _)
     simp only [Act.put, sA, sB, sC]
   refine obs_is (fun w2 hE2 _ => ?_) ?_
   · go_wp2_with fail
     refine (number_any (s.extract 4 8) _ hx4).mono ?_
     rintro e w3 ⟨rfl, hb3⟩
     go_wp2
     exact post_is hb3
   simp only [Act.put, sA, sB, sC]
   iterate 7
     refine obs_is (fun w2 hE2 _ => ?_) ?_
     · go_wp2
       exact post_is (Below.refl _ _)
     simp only [Act.put, sA, sB, sC]
   refine obs_ptr (fun w2 hE2 _ => ?_) (fun x => ?_)
   · go_wp2
     exact ⟨_, rfl, ⟨w2.heap.size, hE2.size, rfl, Blk.new _ _ _⟩, (Below.refl _ _).alloc (Nat.le_refl _) _⟩
   simp only [Act.put, sA, sB, sC]
   refine obs_end fun w3 hE3 hk => ?_
   obtain ⟨g2, hg2, rfl, hb2⟩ := hk _ (List.mem_cons_self)
   clear hk
   have hB3 : Below w.heap.size w w3 := by rw [hG.out]; exact hB0.drew.trans (hE3.mono (show g ≤ w1.heap.size by rw [← hG.out]; exact hB0.size))
   have hr3 := hr0.drew.keep hE3 hr0.lt
   have hne : g ≠ g2 := by
     have := hr0.lt
     omega
   rw [num4_take, num4_take]
   refine wpList_store_row rfl 138 _ _ rfl g2 (#[.int .u32 (num4 s.data.toList : Nat), .int .u32 (num4 (s.data.toList.drop 4) : Nat), .string (s.extract 12 (12 + n))]) rfl rfl 138 _ hb2 (by kernel_rfl) (by simp) (by simp [Value.oneCell']) ?_
   replace hb2 := hb2.setRow #[.int .u32 (num4 s.data.toList : Nat), .int .u32 (num4 (s.data.toList.drop 4) : Nat), .string (s.extract 12 (12 + n))]
   replace hr3 := hr3.farRow hne #[.int .u32 (num4 s.data.toList : Nat), .int .u32 (num4 (s.data.toList.drop 4) : Nat), .string (s.extract 12 (12 + n))]
   replace hB3 := below_setRow hB3 (g := g2) (by rw [hG.out]; have := hB0.size; rw [hG.out] at this; omega) #[.int .u32 (num4 s.data.toList : Nat), .int .u32 (num4 (s.data.toList.drop 4) : Nat), .string (s.extract 12 (12 + n))]
   simp only [Act.put]
   generalize w3.setRow g2 _ = w4 at *
   have c0 := hb2.cellAt (i := 0) (by simp)
   have c1 := hb2.cellAt (i := 1) (by simp)
   have c2 := hb2.cellAt (i := 2) (by simp)
   simp at c0 c1 c2
   go_wp2_with fail
   refine (refPack_any _ _ _ _ (num4_lt _) (num4_lt _) (by rw [ByteArray.size_extract]; omega)).mono ?_
   rintro e w5 ⟨rfl, hb5⟩
   have htest : (sect (num4 s.data.toList) (num4 (List.drop 4 s.data.toList)) (s.extract 12 (12 + n)) == s.toList) = yes := by
     rw [Bool.eq_iff_iff, beq_iff_eq, ByteArray.toList_eq]
     exact hyes
   have hr5 := hr3.keep hb5 hr3.lt
   have hx5 := hb2.keep hb5 hb2.lt
   have hB5 := below2 hB3 hb5
   clear c0 c1 c2 hyes
   cases yes
   · go_wp2_with (refine wpList_store_row rfl 138 _ _ rfl g _ rfl rfl 138 _ hr5 (by kernel_rfl) (by simp) (by simp [Value.oneCell']) ?_)
     refine bodyPost_ret (results_row_tmp rfl _ _ g 138 _ _ rfl (hr5.setRow _) Tryz.underlying138 rfl (by kernel_rfl)) rfl ⟨rfl, below_setRow hB5 (by rw [hG.out]; omega) _⟩
   · go_wp2_with (first
       | (refine wpList_load_row rfl 138 _ rfl g2 rfl 138 _ (0, 0) _ hx5 Tryz.underlying138 rfl (by kernel_rfl) ?_)
       | (refine wpList_store_row rfl 138 _ _ rfl g _ rfl rfl 138 _ hr5 (by kernel_rfl) (by simp) (by simp [Value.oneCell']) ?_))
     refine bodyPost_ret (results_row_tmp rfl _ _ g 138 _ _ rfl (hr5.setRow _) Tryz.underlying138 rfl (by kernel_rfl)) rfl ⟨rfl, below_setRow hB5 (by rw [hG.out]; omega) _⟩
theorem refUnpack_yes (s : ByteArray) (w : World) (h : IsSlab s) :
   Calls Tryz.prog 92 #[.string s] w fun e w' => e = .returned (.tuple #[slabV (partE s) (partI s) (partB s), .bool true]) ∧ Below w.heap.size w w' := by
 obtain ⟨hz, h0, hn, hs⟩ := h
 have h8 : s[8]'(by omega) = 0 := by rw [← getD_at s 8 (by omega)]; exact h0
 have hn' : partN s = (s[9]'(by omega)).toNat := getD_nat s 9 (by omega)
 exact refUnpack_rest s w hz (by omega) (by omega) (by rw [h8]; rfl) (partN s) hn' hn true (by simpa [partB] using hs)
theorem refUnpack_no (s : ByteArray) (w : World) (h : ¬ IsSlab s) :
   Calls Tryz.prog 92 #[.string s] w fun e w' => e = .returned (.tuple #[noSlab, .bool false]) ∧ Below w.heap.size w w' := by
 by_cases hz : s.size = 128
 · by_cases h8 : (s[8]'(by omega)).toNat = 0
   · have hn' : partN s = (s[9]'(by omega)).toNat := getD_nat s 9 (by omega)
     have h0 : s.data.toList.getD 8 0 = 0 := by
       rw [getD_at s 8 (by omega)]
       exact UInt8.toNat_inj.1 h8
     by_cases hc : (112 : Int) < (s[9]'(by omega)).toNat
     · exact refUnpack_nine s w hz (by omega) (by omega) (by rw [h8]; rfl) hc
     · exact refUnpack_rest s w hz (by omega) (by omega) (by rw [h8]; rfl) (partN s) hn' (by omega) false
         (by constructor
             · intro hs; exact absurd ⟨hz, h0, by omega, hs⟩ h
             · intro hf; cases hf)
   · exact refUnpack_eight s w hz (by omega) (by simp; omega)
 · exact refUnpack_size s w hz
end Go.Proofs.YtbplgbkbggmaeaaGreat
