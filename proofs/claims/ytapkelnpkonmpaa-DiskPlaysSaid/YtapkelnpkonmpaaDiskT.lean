/- The statement DiskSafe, walked. -/
import Derived.Test.YtapkelnpkonmpaaDiskS
namespace Go.Proofs.Ytapkelnpkonmpaa
open Go.RowKit

/-- Is it one of these? -/
def okB (r z : ByteArray) (l : List ByteArray) : Bool := (r.toList == z.toList) || l.any fun x => r.toList == x.toList
theorem okB_snoc (r z x : ByteArray) (l : List ByteArray) : okB r z (l ++ [x]) = (okB r z l || (r.toList == x.toList)) := by simp [okB, Bool.or_assoc]
theorem okB_true {r z : ByteArray} {l : List ByteArray} (h : r = z ∨ r ∈ l) : okB r z l = true := by
  unfold okB
  rcases h with h | h
  · rw [h]; simp
  · rw [List.any_eq_true.2 ⟨r, h, by simp⟩, Bool.or_true]

set_option maxRecDepth 100000 in
set_option maxHeartbeats 16000000 in
theorem walkDiskSafe (v : Value) (ops : List OpD) (v' : Value) (ops' : List OpD) (v3 : Value) (p : List UInt8) (w : World) (hr : ReadsOps w v ops) (hr' : ReadsOps w v' ops') (hr3 : Reads w v3 (byteVs p)) (hp3 : p.length ≤ maxLen) :
    Calls Try.prog 4 #[v, v', v3] w fun e w' => e = .returned (.bool true) ∧ Below w.heap.size w w' := by
  obtain ⟨a3, cap3, hv3, hc3, hx3⟩ := id hr3
  rw [byteVs_len] at hv3
  subst hv3
  have HR3 := Lib.hid hr3
  clear hr3 hc3
  cases hlong : isLong ops with
  | true =>
    have HL1 := Lib.hid (fun W (hb : Below w.heap.size w W) => long_any v ops W (hr.keep hb) true hlong)
    clear hr hlong hr' hx3
    go_enter Try.func4, Try.ntmps4
    go_wp2_with fail
    refine (Live.make 8 (by omega) (by omega) (Below.refl w.heap.size w)).mono ?_
    rintro e w1 ⟨g, F, rfl, L1⟩
    go_wp2_with fail
    refine (awake_any _).mono ?_
    rintro e w2 ⟨rfl, hb2⟩
    have L2 := L1.more hb2
    go_wp2_with fail
    refine (HL1.out _ L2.below).mono ?_
    rintro e w3 ⟨rfl, hb3⟩
    have L3 := L2.more hb3
    go_wp2_with fail
    refine (awake_any _).mono ?_
    rintro e w5 ⟨rfl, hb5⟩
    have HB := Lib.hid (L3.more hb5).below
    clear L1 L2 L3 hb2 hb3 hb5
    go_wp2
    go_ret
    exact ⟨rfl, HB.out⟩
  | false =>
   have HL1 := Lib.hid (fun W (hb : Below w.heap.size w W) => long_any v ops W (hr.keep hb) false hlong)
   cases hlong' : isLong ops' with
   | true =>
    have HL2 := Lib.hid (fun W (hb : Below w.heap.size w W) => long_any v' ops' W (hr'.keep hb) true hlong')
    clear hr hlong hr' hlong' hx3
    go_enter Try.func4, Try.ntmps4
    go_wp2_with fail
    refine (Live.make 8 (by omega) (by omega) (Below.refl w.heap.size w)).mono ?_
    rintro e w1 ⟨g, F, rfl, L1⟩
    go_wp2_with fail
    refine (awake_any _).mono ?_
    rintro e w2 ⟨rfl, hb2⟩
    have L2 := L1.more hb2
    go_wp2_with fail
    refine (HL1.out _ L2.below).mono ?_
    rintro e w3 ⟨rfl, hb3⟩
    have L3 := L2.more hb3
    go_wp2_with fail
    refine (HL2.out _ L3.below).mono ?_
    rintro e w4 ⟨rfl, hb4⟩
    have L4 := L3.more hb4
    go_wp2_with fail
    refine (awake_any _).mono ?_
    rintro e w5 ⟨rfl, hb5⟩
    have HB := Lib.hid (L4.more hb5).below
    clear L1 L2 L3 L4 hb2 hb3 hb4 hb5
    go_wp2
    go_ret
    exact ⟨rfl, HB.out⟩
   | false =>
   have HL2 := Lib.hid (fun W (hb : Below w.heap.size w W) => long_any v' ops' W (hr'.keep hb) false hlong')
   by_cases hp200 : 200 < p.length
   · have hdec : decide ((200 : Int) < (p.length : Int)) = true := by simp; omega
     clear hr hlong hr' hlong' hx3
     go_enter Try.func4, Try.ntmps4
     go_wp2_with fail
     refine (Live.make 8 (by omega) (by omega) (Below.refl w.heap.size w)).mono ?_
     rintro e w1 ⟨g, F, rfl, L1⟩
     go_wp2_with fail
     refine (awake_any _).mono ?_
     rintro e w2 ⟨rfl, hb2⟩
     have L2 := L1.more hb2
     go_wp2_with fail
     refine (HL1.out _ L2.below).mono ?_
     rintro e w3 ⟨rfl, hb3⟩
     have L3 := L2.more hb3
     go_wp2_with fail
     refine (HL2.out _ L3.below).mono ?_
     rintro e w4 ⟨rfl, hb4⟩
     have L4 := L3.more hb4
     go_wp2_with fail
     refine (awake_any _).mono ?_
     rintro e w5 ⟨rfl, hb5⟩
     have HB := Lib.hid (L4.more hb5).below
     clear L1 L2 L3 L4 hb2 hb3 hb4 hb5
     go_wp2
     go_ret
     exact ⟨rfl, HB.out⟩
   · have hdec : decide ((200 : Int) < (p.length : Int)) = false := by simp; omega
     have HXB : Hid (byteVs p ≠ [] → ∀ b, (Value.slice a3 p.length cap3).ownBlock = some b → b < w.heap.size) := fun hne b hb => by
       cases p with
       | nil => exact absurd rfl hne
       | cons y ys =>
         obtain ⟨blk, off, e, hc⟩ := hx3 0 _ rfl
         subst e
         simp only [Value.ownBlock, Option.some.injEq] at hb
         subst hb
         exact World.block_lt_of_cell? w ⟨blk, off + 0, none⟩ hc
     obtain ⟨ad, cap, hv, hcap, hcm, hops⟩ := hr
     subst hv
     obtain ⟨ad', capB, hv', hcap', hcm', hops'⟩ := hr'
     subst hv'
     have HOPS := Lib.hid hops
     have HOPS' := Lib.hid hops'
     have hl : ops.length ≤ 9223372036854775807 := by unfold maxLen at hcm; omega
     have hl' : ops'.length ≤ 9223372036854775807 := by unfold maxLen at hcm'; omega
     have hl300 := isLong_le hlong
     have hl300' := isLong_le hlong'
     have HZ := row8_const (.string ⟨#[]⟩)
     have HN := row8_const (.slice none 0 0)
     have HZ' := Lib.hid HZ
     have HN' := Lib.hid HN
     clear hops hlong hops' hlong' hx3 HZ HN
     go_enter Try.func4, Try.ntmps4
     go_wp2_with fail
     refine (Live.make 8 (by omega) (by omega) (Below.refl w.heap.size w)).mono ?_
     rintro e w1 ⟨g, F, rfl, L1⟩
     go_wp2_with fail
     refine (awake_any _).mono ?_
     rintro e w2 ⟨rfl, hb2⟩
     have L2 := L1.more hb2
     go_wp2_with fail
     refine (HL1.out _ L2.below).mono ?_
     rintro e w3 ⟨rfl, hb3⟩
     have L3 := L2.more hb3
     go_wp2_with fail
     refine (HL2.out _ L3.below).mono ?_
     rintro e w4 ⟨rfl, hb4⟩
     have L4 := L3.more hb4
     go_wp2_with fail
     have hF := Plain.start 8
     generalize Dk.new 8 = D at *
     have HF := Lib.hid hF
     clear L1 L2 L3 hb2 hb3 hb4 hF
     go_loopw [53] (fun vj wr => ∃ (j : Nat) (F : Foot) (D : Dk), j ≤ ops.length ∧ vj = .int .i64 j ∧ Live w wr F g D ∧ Plain D 8 j) (fun vj _ => ops.length - (intOf vj).toNat)
     case atStart => exact ⟨0, F, D, Nat.zero_le _, rfl, L4, HF.out⟩
     case round =>
       obtain ⟨j, F5, D5, hj, rfl, L5, hF5⟩ := hrel
       clear HF L4
       by_cases hlt : j < ops.length
       · obtain ⟨blk, off, np, cap', ha, pa, c0, c1, c2, c3, c4, _⟩ := op_cells HOPS.out L5.below hlt
         subst ha
         generalize ops[j].kind = kd at *
         generalize ops[j].i = oi at *
         generalize ops[j].n = on at *
         generalize ops[j].s = os at *
         have hwl : D5.waits.length < 16777216 := by have := hF5.waits; omega
         have LX := Lib.hid (L5.more ((Below.refl _ _).alloc (Nat.le_refl _) (.cells #[.int .i64 kd, .int .i64 oi, .int .i64 on, .int .u8 (os.toNat : Int), .slice pa np cap'] 33)))
         have BX := Lib.hid (Blk.new wr 33 #[.int .i64 kd, .int .i64 oi, .int .i64 on, .int .u8 (os.toNat : Int), .slice pa np cap'])
         have hx := sec_eq oi 8 (by omega) (by omega)
         have hxl := secN_lt oi 8 (by omega)
         generalize secN oi 8 = x at *
         have HX := Lib.hid hx
         have HWL := Lib.hid hwl
         obtain ⟨f1, f2⟩ := hF5.write x (fullS os) ⟨by omega, by omega⟩ (fullS_size os)
         have HS := Lib.hid f1
         have HE := Lib.hid f2
         clear f1 f2 hx hwl hF5 L5
         go_wp2_with fail
         refine' wp_region_conf 9 [.is _, .is _, .is _, .is _, .is _, .is _, .is _, .is _, .is _] (by kernel_rfl) (by kernel_rfl) (by kernel_rfl) (by kernel_rfl) rfl ?main
         case main =>
           iterate 9
             refine obs_is (fun w5 hE2 _ => ?_) ?_
             · have bx := BX.out.drew.keep hE2 BX.out.lt
               have b1 := bx.cell 1
               have b3 := bx.cell 3
               clear bx
               go_wp2_with (go_at_call 13; refine (full_any os _).mono ?_; rintro e w6 ⟨rfl, hb6⟩)
               first | exact post_is hb6 | exact post_is (Below.refl _ _)
             simp only [Act.put, List.setIfInBounds_toArray, List.set_cons_zero, List.set_cons_succ]
           refine obs_end fun w5 hE3 _ => ?_
           have L6 := LX.out.drew.more hE3
           have H := Lib.hid (L6.write x (fullS os) HWL.out 0 HE.out rfl)
           clear L6
           change wpList _ _ _ _ _ _
           go_wp2_with fail
           rw [HX.out]
           refine H.out.mono ?_
           rintro e w6 ⟨rfl, F6, L6⟩
           go_wp2
           go_roundw
           case rel => exact ⟨j + 1, F6, _, by omega, by go_num, L6, HS.out⟩
           case measure => simp [intOf]; omega
       · obtain rfl : j = ops.length := by omega
         obtain ⟨f1, f2⟩ := hF5.sync
         have hs0 : Plain D5.sync 8 0 := f1.weak (by rw [hF5.sync_is]; exact Nat.le_refl _)
         have HS := Lib.hid hs0
         have HE := Lib.hid f2
         clear f1 f2 hs0 hF5
         go_wp2_with fail
         refine (L5.sync 0 HE.out rfl).mono ?_
         rintro e w6 ⟨rfl, F6, L6⟩
         generalize D5.sync = S at *
         have hsc := Scene.start L6
         rw [← HZ'.out, ← HN'.out] at hsc
         have HSC := Lib.hid hsc
         clear L5 L6 hsc
         go_wp2_with fail
         generalize hwb : w6.heap.size = wb at *
         clear hwb
         go_loopw [70] (fun vk wr => ∃ k : Nat, k ≤ 8 ∧ vk = .int .i64 k ∧ Scene w wr F6 g S wb (fun i => if i < k then .string (S.read i) else .string ⟨#[]⟩) (wb + 1) (fun _ => .slice none 0 0) (fun _ => [])) (fun vk _ => 8 - (intOf vk).toNat)
         case atStart => exact ⟨0, by omega, rfl, HSC.out.congr (fun i _ => by simp) (fun _ => rfl)⟩
         case round =>
           obtain ⟨k, hk, rfl, hsc⟩ := hrel
           clear HSC
           by_cases hk8 : k < 8
           · have hki : (0 : Int) ≤ (k : Int) ∧ (k : Int) < (8 : Nat) := ⟨by omega, by omega⟩
             have E1 := Lib.hid (HS.out.reach k hki)
             have hk0 : (0 : Int) ≤ (k : Int) := hki.1
             have hkI : (k : Int) < 8 := by omega
             have SC := Lib.hid hsc
             clear hki hsc
             go_wp2_with fail
             refine (SC.out.read k 0 E1.out _ rfl).mono ?_
             rintro e w7 ⟨rfl, S7⟩
             have hcell := (S7.was.cell k).trans (row8_at _ k hk8)
             have hf := S7.was.frozen k
             have s8 := S7.setWas k (.string (S.read k))
             have S8 := Lib.hid (s8.congr (was' := fun i => if i < k + 1 then .string (S.read i) else .string ⟨#[]⟩) (fun i _ => by
               by_cases e1 : i = k
               · subst e1; simp
               · by_cases e2 : i < k
                 · simp [e1, e2, show i < k + 1 by omega]
                 · simp [e1, e2, show ¬ i < k + 1 by omega]) (fun _ => rfl))
             rw [if_neg (Nat.lt_irrefl k)] at hcell
             clear SC S7 s8
             generalize S.read (k : Int) = z at hcell S8 ⊢
             go_wp2
             go_roundw
             case rel => exact ⟨k + 1, by omega, by go_num, S8.out⟩
             case measure => simp [intOf]; omega
           · obtain rfl : k = 8 := by omega
             have SC := Lib.hid (hsc.congr (was' := fun i => .string (S.read (i : Int))) (fun i hi => by simp [hi]) (fun i => show ([] : List ByteArray) = alt S.waits i by
               have := HS.out.waits
               rw [List.eq_nil_of_length_eq_zero (by omega : S.waits.length = 0)]
               rfl))
             clear hsc
             go_wp2
             go_loopw [84] (fun vj wr => ∃ (j : Nat) (F : Foot) (D : Dk) (f : Nat → Value), j ≤ ops'.length ∧ vj = .int .i64 j ∧ Scene w wr F g D wb (fun i => .string (S.read (i : Int))) (wb + 1) f (alt D.waits) ∧ Plain D 8 j ∧ D.safe = S.safe) (fun vj _ => ops'.length - (intOf vj).toNat)
             case atStart => exact ⟨0, F6, S, _, Nat.zero_le _, rfl, SC.out, HS.out, rfl⟩
             case round =>
               obtain ⟨j, F5, D5, f, hj, rfl, L5, hF5, hsafe⟩ := hrel
               clear SC
               by_cases hlt : j < ops'.length
               · obtain ⟨blk, off, np, cap', ha, pa, c0, c1, c2, c3, c4, _⟩ := op_cells HOPS'.out L5.live.below hlt
                 subst ha
                 generalize ops'[j].kind = kd at *
                 generalize ops'[j].i = oi at *
                 generalize ops'[j].n = on at *
                 generalize ops'[j].s = os at *
                 have hwl : D5.waits.length < 16777216 := by have := hF5.waits; omega
                 have LX := Lib.hid (L5.more ((Below.refl _ _).alloc (Nat.le_refl _) (.cells #[.int .i64 kd, .int .i64 oi, .int .i64 on, .int .u8 (os.toNat : Int), .slice pa np cap'] 33)))
                 have BX := Lib.hid (Blk.new wr 33 #[.int .i64 kd, .int .i64 oi, .int .i64 on, .int .u8 (os.toNat : Int), .slice pa np cap'])
                 have hx := sec_eq oi 8 (by omega) (by omega)
                 have hxl := secN_lt oi 8 (by omega)
                 generalize secN oi 8 = x at *
                 have HX := Lib.hid hx
                 have HWL := Lib.hid hwl
                 obtain ⟨f1, f2⟩ := hF5.write x (fullS os) ⟨by omega, by omega⟩ (fullS_size os)
                 have HS1 := Lib.hid f1
                 have HE1 := Lib.hid f2
                 have HSF : Hid ((D5.write x (fullS os)).safe = S.safe) := by show _ = _; rw [hF5.write_is x _ ⟨by omega, by omega⟩ (fullS_size os)]; exact hsafe
                 have HWT : Hid ((D5.write x (fullS os)).waits = D5.waits ++ [(x, fullS os)]) := by show _ = _; rw [hF5.write_is x _ ⟨by omega, by omega⟩ (fullS_size os)]; simp
                 have lt5 := L5.live.disk.lt
                 clear f1 f2 hx hwl hF5 hsafe
                 go_wp2_with fail
                 rw [HX.out]
                 refine (full_any os _).mono ?_
                 rintro e w7 ⟨rfl, hb7⟩
                 have L7 := LX.out.more hb7
                 have B7 := BX.out.keep hb7 BX.out.lt
                 have hxF : ¬ F5 wr.heap.size := fun h => by have := lt5 _ h; omega
                 go_wp2_with fail
                 refine (write_any L7.live.disk x (fullS os) HWL.out).mono ?_
                 rintro e w8 ⟨rfl, F8, hd8, hs8⟩
                 have S8 := Lib.hid (L7.step hd8 hs8)
                 have B8 : Hid (Blk w8 wr.heap.size 33 #[.int .i64 kd, .int .i64 oi, .int .i64 on, .int .u8 (os.toNat : Int), .slice pa np cap']) := (hs8.block _ B7.lt hxF).trans B7
                 clear L5 L7 B7 hd8 hs8 hb7 lt5 c0 c1 c2 c3 c4 hxF
                 rw [HE1.out]
                 go_wp2_with fail
                 have hx8 : x < 8 := by omega
                 obtain ⟨fa, fc, hfx, _⟩ := own_len (S8.out.mays.own x hx8)
                 have HFX := Lib.hid hfx
                 have hx0 : (0 : Int) ≤ (x : Int) := Int.natCast_nonneg _
                 have hal := alt_len D5.waits x
                 have hwl := HWL.out
                 have hnl : (alt D5.waits x).length ≤ 100000000 := by omega
                 obtain ⟨i0, hi0, hz0, hz1, hz2⟩ := info_parts info_string
                 clear hfx
                 refine' wp_region_free [0] 9 [.is (.int .i64 (x : Int)), .is _, .is _, .is _, .is _, .is _, .is _, .is _, .slice w8.heap.size 2 9 #[.string (fullS os), .string (fullS 0)]] (by kernel_rfl) (by kernel_rfl) (by kernel_rfl) (by kernel_rfl) (by kernel_rfl) rfl ⟨rfl, trivial⟩ (fun _ _ _ _ _ h => h) ?main
                 case main =>
                   iterate 7
                     refine obs_is (fun w5 hE2 _ => ?_) ?_
                     · have bx := B8.out.drew.keep hE2 B8.out.lt
                       have b3 := bx.cell 3
                       have sc := S8.out.drew.more hE2
                       have e1 := (sc.mays.blk.cell x).trans (row8_at f x hx8)
                       rw [HFX.out] at e1
                       clear bx sc
                       go_wp2_with (go_at_call 13; refine (full_any os _).mono ?_; rintro e w6 ⟨rfl, hb6⟩)
                       first | exact post_is hb6 | exact post_is (Below.refl _ _)
                     simp only [Act.put, List.setIfInBounds_toArray, List.set_cons_zero, List.set_cons_succ]
                   refine obs_is (fun w5 hE2 _ => ?_) ?_
                   · go_wp2_with (go_at_call 13; refine (full_any 0 _).mono ?_; rintro e w6 ⟨rfl, hb6⟩)
                     exact post_is hb6
                   simp only [Act.put, List.setIfInBounds_toArray, List.set_cons_zero, List.set_cons_succ]
                   refine obs_slice (fun w5 hE2 _ => ?_) (fun q => ?_)
                   · go_wp2
                     exact ⟨_, rfl, ⟨w5.heap.size, hE2.size, rfl, Blk.new _ _ _⟩, (Below.refl _ _).alloc (Nat.le_refl _) _⟩
                   simp only [Act.put, List.setIfInBounds_toArray, List.set_cons_zero, List.set_cons_succ]
                   refine obs_end fun w5 hE3 hkn => ?_
                   obtain ⟨g2, _, rfl, hb2⟩ := hkn _ (List.mem_cons_self)
                   have sc := S8.out.drew.more hE3
                   have hown := sc.mays.own x hx8
                   have hne := own_blk hown sc.mays.blk (by decide)
                   rw [HFX.out] at hown hne
                   have hlm := sc.mays.blk.lt
                   have cm := (sc.mays.blk.cell x).trans (row8_at f x hx8)
                   have fm := sc.mays.blk.frozen x
                   rw [HFX.out] at cm
                   have SC5 := Lib.hid sc
                   clear sc hkn
                   go_wp2_with (at_builtin; refine wpList_append_own_at _ rfl (.tmp 102) (.tmp 107) 40 rfl 0 9 i0 (.string ⟨#[]⟩) 1 16 Try.underlying40 hi0 hz0 hz1 hz2 rfl (by decide) _ _ _ rfl hown ⟨g2, 0, none⟩ 2 2 [.string (fullS os), .string (fullS 0)] rfl rfl (World.news_of_block hb2) (by simp [Value.oneCell']) (by simp only [maxLen]; omega) (by omega) (Nat.zero_le _) ?_)
                   intro v4 w6 hown4 hgrow _ hat
                   have cm6 := (hgrow.cell_far ⟨wb + 1, x, none⟩ hlm (Ne.symm hne)).trans cm
                   have fm6 := (hgrow.frozen_far ⟨wb + 1, x, none⟩ hlm (Ne.symm hne)).trans fm
                   have hpush := SC5.out.push (w' := w6) x hx8 [fullS os, fullS 0] (v := v4) (by
                     rw [List.length_append, show strsV (alt D5.waits x ++ [fullS os, fullS 0]) = strsV (alt D5.waits x) ++ [.string (fullS os), .string (fullS 0)] from by simp [strsV]]
                     exact hown4) (by rw [HFX.out]; exact hgrow) (by rw [HFX.out]; exact hat)
                   have SC6 := Lib.hid (hpush.congr (was' := fun i => .string (S.read (i : Int))) (L' := alt (D5.write x (fullS os)).waits) (fun _ _ => rfl) (fun i => by
                     rw [HWT.out, alt_snoc]
                     by_cases e : i = x
                     · subst e; simp [fullS_zero]
                     · simp [e]))
                   obtain ⟨b4, k4, hv4, _⟩ := own_len hown4
                   subst hv4
                   clear hpush hown hown4 hgrow hat cm fm hb2 hne hlm
                   go_wp2
                   go_roundw
                   case rel =>
                     (repeat apply Exists.intro)
                     exact ⟨⟨j + 1, F8, _, _, by omega, by go_num, SC6.out, HS1.out, HSF.out⟩, rfl⟩
                   case measure =>
                     simp [intOf]; omega
               · obtain rfl : j = ops'.length := by omega
                 have halt := fun (i : Nat) (hi : i < 8) => crash_alt L5.live.disk.1 hF5 p i hi
                 have hcg : (D5.crash p).gone = false := rfl
                 have hcw : (D5.crash p).waits.length = 0 := rfl
                 have hreach : ∀ i : Nat, i < 8 → (D5.crash p).reachE (i : Int) = 0 := fun i hi => by
                   unfold Dk.reachE Dk.crash
                   rw [if_neg (by simp), if_pos]
                   refine ⟨by omega, ?_⟩
                   show (i : Int) < ((D5.settled (fate p)).length : Int)
                   unfold Dk.settled
                   rw [settleTo_len, hF5.size]
                   omega
                 have hwas : ∀ i : Nat, i < 8 → S.read (i : Int) = D5.safe.getD i zero128 := fun i hi => by
                   rw [HS.out.read i ⟨by omega, by omega⟩, hsafe]
                   unfold Dk.at_
                   have := HS.out.waits
                   rw [List.eq_nil_of_length_eq_zero (by omega : S.waits.length = 0)]
                   simp [lastOf]
                 have hkey : ∀ i : Nat, i < 8 → okB ((D5.crash p).read (i : Int)) (S.read (i : Int)) (alt D5.waits i) = true := fun i hi => okB_true (by rw [hwas i hi]; exact halt i hi)
                 have halen : ∀ i, (alt D5.waits i).length ≤ 100000000 := fun i => by have := alt_len D5.waits i; have := hF5.waits; omega
                 have HK := Lib.hid hkey
                 have HRE := Lib.hid hreach
                 have HCG := Lib.hid hcg
                 have HCW := Lib.hid hcw
                 have HAL := Lib.hid halen
                 clear halt hcg hcw hreach hwas hkey halen hF5 hsafe
                 go_wp2_with fail
                 refine (L5.crash _ p (HR3.out.keep L5.live.below) (fun hne b hb hF => by
                   have h1 := HXB.out (fun e => hne (by simpa [byteVs] using e)) b hb
                   have h2 := L5.live.new b hF
                   omega) rfl).mono ?_
                 rintro e w9 ⟨rfl, F9, S9⟩
                 generalize D5.crash p = C at *
                 generalize hL : alt D5.waits = L at *
                 clear hL
                 have SC9 := Lib.hid S9
                 clear L5 S9
                 go_wp2_with fail
                 go_loopw [114] (fun vk wr => ∃ k : Nat, k ≤ 8 ∧ vk = .int .i64 k ∧ Scene w wr F9 g C wb (fun i => .string (S.read (i : Int))) (wb + 1) f L) (fun vk _ => 8 - (intOf vk).toNat)
                 case atStart => exact ⟨0, by omega, rfl, SC9.out⟩
                 case round =>
                   obtain ⟨k, hk, rfl, hsc⟩ := hrel
                   clear SC9
                   by_cases hk8 : k < 8
                   · have HKK := Lib.hid (HK.out k hk8)
                     have hk0 : (0 : Int) ≤ (k : Int) := Int.natCast_nonneg _
                     have hkI : (k : Int) < 8 := by omega
                     go_wp2_with fail
                     refine (hsc.read k 0 (HRE.out k hk8) _ rfl).mono ?_
                     rintro e w10 ⟨rfl, S10⟩
                     have cw := (S10.was.cell k).trans (row8_at _ k hk8)
                     have cm := (S10.mays.blk.cell k).trans (row8_at _ k hk8)
                     have ho := S10.mays.own k hk8
                     have hln := HAL.out k
                     obtain ⟨fa, fc, hfk, _⟩ := own_len ho
                     rw [hfk] at cm ho
                     have SC10 := Lib.hid S10
                     have HO := Lib.hid ho
                     clear hsc S10 ho hfk
                     generalize C.read (k : Int) = r at *
                     generalize S.read (k : Int) = z at *
                     generalize L k = l at *
                     go_wp2_with fail
                     go_loop [20, 132] (fun vb vj => ∃ j : Nat, j ≤ l.length ∧ vj = .int .i64 j ∧ vb = .bool (okB r z (l.take j))) (fun _ vj => l.length - (intOf vj).toNat)
                     case atStart => exact ⟨0, Nat.zero_le _, rfl, by simp [okB]⟩
                     case round =>
                       obtain ⟨j, hj, rfl, rfl⟩ := hrel
                       by_cases hlt : j < l.length
                       · obtain ⟨bb, cc, e, _, _⟩ := own_form HO.out (by omega)
                         simp only [Value.slice.injEq] at e
                         obtain ⟨rfl, _, _⟩ := e
                         have cx := (HO.out.cellAt j (by omega)).trans (show (strsV l)[j]? = some (.string l[j]) from by simp [strsV, hlt])
                         have hsn : okB r z (l.take (j + 1)) = (okB r z (l.take j) || (r.toList == l[j].toList)) := by rw [List.take_succ_eq_append_getElem hlt, okB_snoc]
                         have HSN := Lib.hid hsn
                         clear hsn
                         generalize l[j] = y at *
                         cases hbj : okB r z (l.take j) with
                         | true =>
                           have hn : okB r z (l.take (j + 1)) = true := by rw [HSN.out, hbj]; rfl
                           have HN1 := Lib.hid hn
                           clear hn hbj
                           go_wp2
                           go_round
                           case rel => exact ⟨j + 1, by omega, by go_num, by rw [HN1.out]⟩
                           case measure => simp [intOf]; omega
                         | false =>
                           have hn : okB r z (l.take (j + 1)) = (r.toList == y.toList) := by rw [HSN.out, hbj]; rfl
                           have HN1 := Lib.hid hn
                           clear hn hbj
                           go_wp2
                           all_goals
                             go_round
                             case rel => exact ⟨j + 1, by omega, by go_num, by rw [HN1.out]⟩
                             case measure => simp [intOf]; omega
                       · obtain rfl : j = l.length := by omega
                         have hall : okB r z (l.take l.length) = true := by rw [List.take_length]; exact HKK.out
                         rw [hall]
                         clear hall cw cm
                         go_wp2
                         go_roundw
                         case rel => exact ⟨k + 1, by omega, by go_num, SC10.out⟩
                         case measure => simp [intOf]; omega
                   · have HSC := Lib.hid hsc
                     clear hsc
                     go_wp2_with fail
                     refine (HSC.out.live.waiting 0 HCW.out).mono ?_
                     rintro e w10 ⟨rfl, rfl⟩
                     go_wp2_with fail
                     refine (HSC.out.live.dead false HCG.out).mono ?_
                     rintro e w10 ⟨rfl, rfl⟩
                     have HB := Lib.hid HSC.out.live.below
                     go_wp2
                     go_ret
                     exact ⟨rfl, HB.out⟩
end Go.Proofs.Ytapkelnpkonmpaa
