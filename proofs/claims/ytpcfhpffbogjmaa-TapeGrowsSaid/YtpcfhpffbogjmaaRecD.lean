/- Package record: the reader fills the tables. -/
import Derived.Test.YtpcfhpffbogjmaaRecC
namespace Go.Proofs.Ytpcfhpffbogjmaa
open Go.RowKit

theorem info_txn : (Try.prog.info? 91).map (fun i => (i.zero, i.size, i.bytes)) = some (some (.agg #[.int .i64 0, .int .i64 0, .int .i64 0]), 3, 24) := by kernel_rfl
theorem info_page : (Try.prog.info? 94).map (fun i => (i.zero, i.size, i.bytes)) = some (some (.agg #[.int .i64 0, .int .i64 0]), 2, 16) := by kernel_rfl
theorem info_parts {e : TypeId} {z : Value} {a b : Nat} (h : (Try.prog.info? e).map (fun i => (i.zero, i.size, i.bytes)) = some (some z, a, b)) : ∃ i, Try.prog.info? e = some i ∧ i.zero = some z ∧ i.size = a ∧ i.bytes = b := by
  obtain ⟨i, hi, he⟩ := Option.map_eq_some_iff.1 h
  simp only [Prod.mk.injEq] at he
  exact ⟨i, hi, he.1, he.2.1, he.2.2⟩

theorem own_reader {w : World} {g base size n : Nat} {e : TypeId} {s : ByteArray} {l : List UInt8} {v : Value} {xs : List Value} (h : w.ownsRow base e size v n xs) (hr : Rd w g s l) (hne : e ≠ 121) : ∀ b, v.ownBlock = some b → ¬ b = g := by
  obtain ⟨k, _, _, _, h4⟩ := hr
  rintro b hv rfl
  exact own_blk h h4 hne hv
/-- Behind an append to one of a record's two slices, and the store of it. -/
theorem pushed {w8 w9 : World} {g q base size n i : Nat} {e : TypeId} {s : ByteArray} {l : List UInt8} {r : Rc} {vt vp vt' vp' v v' : Value} {xs : List Value} (hf : Fill w8 g q s l r vt vp) (ho : w8.ownsRow base e size v n xs) {n' : Nat} {xs' : List Value}
    (hown : w9.ownsRow base e size v' n' xs') (hg : w8.grownBy w9 v.ownBlock) (h1 : e ≠ 121) (h2 : e ≠ 50) (hset : (recCells r vt vp).setIfInBounds i v' = recCells r vt' vp') :
    Fill (w9.setCell ⟨q, i, none⟩ v') g q s l r vt' vp' ∧ (w9.setCell ⟨q, i, none⟩ v').ownsRow base e size v' n' xs' := by
  have f9 := hf.grown hg (fun e => own_reader ho hf.rd h1 g e rfl) (own_blk ho hf.row h2)
  have hne := own_blk hown f9.row h2
  exact ⟨f9.set i v' hset rfl, own_keep hown fun b hb => heap_setCell_other w9 ⟨q, i, none⟩ b _ (fun e => hne (by rw [hb, e]))⟩
theorem pushedOnly {w w8 w9 : World} {g q base size n i : Nat} {e : TypeId} {v v' : Value} {xs : List Value} (hW : Only (Two g q) w w8) (ho : w8.ownsRow base e size v n xs) (hb : w.heap.size ≤ base) (hg : w8.grownBy w9 v.ownBlock) : Only (Two g q) w (w9.setCell ⟨q, i, none⟩ v') :=
  only2set (hW.grown hg fun b hv => .inr (Nat.le_trans hb (ho.lt b hv).1)) i v'
/-- What the reading of tables comes to. -/
def FilledT (w : World) (g q : Nat) (s : ByteArray) (o : Option (Rc × List UInt8)) (e : Ending) (w' : World) : Prop :=
  match o with
  | some (r, l) => e = .returned (.tuple #[]) ∧ ∃ vt vp, Fill w' g q s l r vt vp ∧ Lists w' r vt vp ∧ Only (Two g q) w w' ∧ New w vt ∧ New w vp
  | none => e = .panicked gaveUp ∧ Only (Two g q) w w'

set_option maxRecDepth 100000 in
set_option maxHeartbeats 8000000 in
theorem tables_any {w : World} {g q : Nat} {s : ByteArray} {l : List UInt8} {r : Rc} (h : Fill w g q s l r (.slice none 0 0) (.slice none 0 0)) (o : Option (Rc × List UInt8)) (ho : o = tablesP r l) :
    Calls Try.prog 78 #[.pointer (some ⟨g, 0, none⟩), .pointer (some ⟨q, 0, none⟩)] w (FilledT w g q s o) := by
  unfold tablesP at ho
  have HO := Lib.hid ho
  have H1 := Lib.hid (rdnum0 h.rd)
  have F0 := Lib.hid h
  obtain ⟨i3, hi3, z31, z32, z33⟩ := info_parts info_txn
  obtain ⟨i2, hi2, z21, z22, z23⟩ := info_parts info_page
  have I3 := Lib.hid (show _ ∧ _ ∧ _ ∧ _ from ⟨hi3, z31, z32, z33⟩)
  have I2 := Lib.hid (show _ ∧ _ ∧ _ ∧ _ from ⟨hi2, z21, z22, z23⟩)
  clear ho h hi3 z31 z32 z33 hi2 z21 z22 z23
  go_enter Try.func78, Try.ntmps78
  go_wp2_with fail
  refine H1.out.mono ?_
  intro e w1 ht
  rcases ht.int with ⟨hp, rfl, ho⟩ | ⟨bg, l1, hp, rfl, hr, ho⟩
  · rw [hp] at HO
    obtain rfl : o = none := HO.out
    have W := Lib.hid (only2 (q := q) ho)
    clear ho HO hp H1 F0 ht
    go_wp2
    exact ⟨rfl, rfl, W.out⟩
  have HO2 := HO.out
  rw [hp, Option.bind_some] at HO2
  dsimp only at HO2
  replace HO := Lib.hid HO2
  have f1 := F0.out.took hr ho
  have c6 := f1.row.cell 6
  have z6 := f1.row.frozen 6
  simp [recCells] at c6
  have F1 := Lib.hid (f1.set 6 (.int .i64 bg) rfl (r' := { r with beg := bg }) rfl)
  have W1 := Lib.hid (only2set (only2 (q := q) ho) 6 (.int .i64 bg))
  clear f1 ho hr F0 hp H1 ht HO2
  go_wp2_with fail
  generalize w1.setCell ⟨q, 6, none⟩ (.int .i64 bg) = w2 at *
  clear c6 z6
  have H2 := Lib.hid (small_any F1.out.rd 0 4)
  refine H2.out.mono ?_
  intro e w3 ht
  rcases ht.int with ⟨hp, rfl, ho⟩ | ⟨n, l2, hp, rfl, hr, ho⟩
  · rw [hp] at HO
    obtain rfl : o = none := HO.out
    have W := Lib.hid (W1.out.trans (only2 (q := q) ho))
    clear ho HO hp H2 F1 ht
    go_wp2
    exact ⟨rfl, rfl, W.out⟩
  have HO2 := HO.out
  rw [hp, Option.bind_some] at HO2
  dsimp only at HO2
  obtain ⟨_, n1, n2, n3, n4⟩ := smallP_some hp
  obtain ⟨m, rfl⟩ := Int.eq_ofNat_of_zero_le n3
  rw [Int.toNat_natCast] at HO2
  replace HO := Lib.hid HO2
  have F2 := Lib.hid (F1.out.took hr ho)
  have W2 := Lib.hid (W1.out.trans (only2 (q := q) ho))
  clear ho hr F1 hp H2 HO2 ht n1 n3 n4
  go_wp2_with fail
  go_loopw [13] (fun vk wr => ∃ (k : Nat) (xs : List Row3) (lk : List UInt8) (vt : Value), k ≤ m ∧ vk = .int .i64 k ∧ xs.length = k ∧ Fill wr g q s lk { r with beg := bg } vt (.slice none 0 0) ∧ wr.ownsRow w.heap.size 91 3 vt k (rows3 xs) ∧ Only (Two g q) w wr ∧ Midst row3P m l2 xs lk) (fun vk _ => m - (intOf vk).toNat)
  case atStart => exact ⟨0, [], l2, _, Nat.zero_le _, rfl, rfl, F2.out, World.ownsRow_nil _ _ _ _, W2.out, Midst.start _ _ _⟩
  case round =>
    obtain ⟨k, xs, lk, vt, hk, rfl, hxl, hf, hown, ho, hmid⟩ := hrel
    clear F2 W2
    have F3 := Lib.hid hf
    have OW := Lib.hid hown
    have W3 := Lib.hid ho
    have MI := Lib.hid hmid
    have XL := Lib.hid hxl
    clear hf hown ho hmid hxl
    by_cases hlt : k < m
    · go_wp2_with fail
      refine (rdnum1 F3.out.rd).mono ?_
      intro e w4 ht
      rcases ht.int with ⟨hp, rfl, ho⟩ | ⟨a, l3, hp1, rfl, hr, ho⟩
      · have HO2 := HO.out
        rw [MI.out.none (by rw [XL.out]; exact hlt) (row3_none1 hp)] at HO2
        obtain rfl : o = none := HO2
        have W := Lib.hid (W3.out.trans (only2 (q := q) ho))
        clear ho HO hp F3 ht OW MI W3 XL
        go_wp2
        exact ⟨rfl, rfl, W.out⟩
      have F4 := Lib.hid (F3.out.took hr ho)
      have W4 := Lib.hid (W3.out.trans (only2 (q := q) ho))
      have OW4 := Lib.hid (own_only OW.out ho (own_reader OW.out F3.out.rd (by decide)))
      clear F3 W3 OW hr ho ht
      go_wp2_with fail
      refine (rdnum0 F4.out.rd).mono ?_
      intro e w5 ht
      rcases ht.int with ⟨hp, rfl, ho⟩ | ⟨b, l4, hp2, rfl, hr, ho⟩
      · have HO2 := HO.out
        rw [MI.out.none (by rw [XL.out]; exact hlt) (row3_none2 hp1 hp)] at HO2
        obtain rfl : o = none := HO2
        have W := Lib.hid (W4.out.trans (only2 (q := q) ho))
        clear ho HO hp F4 ht OW4 MI W4 XL hp1
        go_wp2
        exact ⟨rfl, rfl, W.out⟩
      have F5 := Lib.hid (F4.out.took hr ho)
      have W5 := Lib.hid (W4.out.trans (only2 (q := q) ho))
      have OW5 := Lib.hid (own_only OW4.out ho (own_reader OW4.out F4.out.rd (by decide)))
      clear F4 W4 OW4 hr ho ht
      go_wp2_with fail
      refine (rdnum0 F5.out.rd).mono ?_
      intro e w6 ht
      rcases ht.int with ⟨hp, rfl, ho⟩ | ⟨c, l5, hp3, rfl, hr, ho⟩
      · have HO2 := HO.out
        rw [MI.out.none (by rw [XL.out]; exact hlt) (row3_none3 hp1 hp2 hp)] at HO2
        obtain rfl : o = none := HO2
        have W := Lib.hid (W5.out.trans (only2 (q := q) ho))
        clear ho HO hp F5 ht OW5 MI W5 XL hp1 hp2
        go_wp2
        exact ⟨rfl, rfl, W.out⟩
      have F6 := Lib.hid (F5.out.took hr ho)
      have W6 := Lib.hid (W5.out.trans (only2 (q := q) ho))
      have OW6 := Lib.hid (own_only OW5.out ho (own_reader OW5.out F5.out.rd (by decide)))
      have MI2 := Lib.hid (MI.out.some (by rw [XL.out]; exact hlt) (row3_some hp1 hp2 hp3))
      clear F5 W5 OW5 hr ho ht hp1 hp2 hp3 MI
      go_wp2_with fail
      have hbw : Below w6.heap.size w6 (w6.alloc (.cells #[.int .i64 a, .int .i64 b, .int .i64 c] 91)) := (Below.refl _ _).alloc (Nat.le_refl _) _
      have B7 := Lib.hid (Blk.new w6 91 #[.int .i64 a, .int .i64 b, .int .i64 c])
      have F7 := Lib.hid (F6.out.more hbw)
      have W7 := Lib.hid (W6.out.more hbw)
      have OW7 := Lib.hid (own_below OW6.out hbw)
      have hsz : w.heap.size ≤ w6.heap.size := W6.out.size
      clear F6 W6 OW6 hbw
      change Code.wp _ _ _ _ (w6.alloc (.cells #[.int .i64 a, .int .i64 b, .int .i64 c] 91))
      generalize w6.heap.size = x at *
      generalize w6.alloc (.cells #[.int .i64 a, .int .i64 b, .int .i64 c] 91) = w7 at *
      obtain ⟨va, vc, hvs⟩ := own_slice OW7.out
      subst hvs
      obtain ⟨hi3, z31, z32, z33⟩ := id I3.out
      refine' wp_region_free [0] 7 [.is (.pointer (some ⟨q, 0, none⟩)), .is _, .is _, .is _, .is _, .is _, .slice w7.heap.size 1 91 #[.int .i64 a, .int .i64 b, .int .i64 c]] (by kernel_rfl) (by kernel_rfl) (by kernel_rfl) (by kernel_rfl) (by kernel_rfl) rfl ⟨rfl, trivial⟩ (fun _ _ _ _ _ h => h) ?main
      case main =>
        iterate 6
          refine obs_is (fun w8 hE2 _ => ?_) ?_
          · have f8 := F7.out.drew.more hE2
            have c9 := f8.row.cell 9
            simp [recCells] at c9
            have b8 := B7.out.drew.keep hE2 B7.out.lt
            clear f8
            go_wp2_with (refine wpList_load_row rfl 91 _ rfl x rfl 91 _ (0, 0) _ b8 Try.underlying91 rfl (by kernel_rfl) ?_)
            exact post_is (Below.refl _ _)
          simp only [Act.put, List.setIfInBounds_toArray, List.set_cons_zero, List.set_cons_succ]
        refine obs_slice (fun w8 hE2 _ => ?_) (fun qq => ?_)
        · go_wp2
          exact ⟨_, rfl, ⟨w8.heap.size, hE2.size, rfl, Blk.new _ _ _⟩, (Below.refl _ _).alloc (Nat.le_refl _) _⟩
        simp only [Act.put, List.setIfInBounds_toArray, List.set_cons_zero, List.set_cons_succ]
        refine obs_end fun w8 hE3 hkn => ?_
        obtain ⟨g2, _, rfl, hb2⟩ := hkn _ (List.mem_cons_self)
        have F8 := Lib.hid (F7.out.drew.more hE3)
        have W8 := Lib.hid (W7.out.drew.more hE3)
        have OW8 := Lib.hid (own_below OW7.out.drew hE3)
        have hown := OW8.out
        have lg := F8.out.row.lt
        have nq := own_blk hown F8.out.row (by decide)
        have c9 := F8.out.row.cell 9
        have z9 := F8.out.row.frozen 9
        simp [recCells] at c9
        clear hkn F7 W7 OW7 B7
        go_wp2_with (at_builtin; refine wpList_append_own_at _ rfl (.tmp 26) (.tmp 28) 47 rfl w.heap.size 91 i3 (.agg #[.int .i64 0, .int .i64 0, .int .i64 0]) 3 24 Try.underlying47 hi3 z31 z32 z33 rfl (by decide) _ _ _ rfl hown ⟨g2, 0, none⟩ 1 1 [.int .i64 a, .int .i64 b, .int .i64 c] rfl rfl (World.news_of_block hb2) (by simp [Value.oneCell']) (by simp only [maxLen]; omega) (by omega) W8.out.size ?_)
        intro v' w9 hown9 hgrow _ hat
        have z10 := (hgrow.frozen_far ⟨q, 9, none⟩ lg (Ne.symm nq)).trans z9
        have c10 := (hgrow.cell_far ⟨q, 9, none⟩ lg (Ne.symm nq)).trans c9
        have P9 := Lib.hid (pushed (i := 9) (vt' := v') (vp' := .slice none 0 0) F8.out OW8.out hown9 hgrow (by decide) (by decide) rfl)
        have W9 := Lib.hid (pushedOnly (i := 9) (v' := v') W8.out OW8.out (Nat.le_refl _) hgrow)
        obtain ⟨ga, ca, hv9⟩ := own_slice hown9
        subst hv9
        clear F8 W8 OW8 hown lg nq c9 z9 hown9 hgrow hat hb2
        go_wp2
        go_roundw
        case rel => exact ⟨k + 1, xs ++ [(a, b, c)], l5, _, by omega, by go_num, by rw [List.length_append, XL.out]; rfl, P9.out.1, by rw [rows3_snoc]; exact P9.out.2, W9.out, MI2.out⟩
        case measure => simp [intOf]; omega
    · obtain rfl : k = m := by omega
      have HO2 := HO.out
      rw [MI.out.done XL.out, Option.bind_some] at HO2
      dsimp only at HO2
      replace HO := Lib.hid HO2
      have T3 := Lib.hid OW.out
      clear OW MI HO2 W1
      go_wp2_with fail
      refine (small_any F3.out.rd 0 8).mono ?_
      intro e w4 ht
      rcases ht.int with ⟨hp, rfl, ho⟩ | ⟨n, l6, hp, rfl, hr, ho⟩
      · rw [hp] at HO
        obtain rfl : o = none := HO.out
        have W := Lib.hid (W3.out.trans (only2 (q := q) ho))
        clear ho HO hp F3 ht
        go_wp2
        exact ⟨rfl, rfl, W.out⟩
      have HO2 := HO.out
      rw [hp, Option.bind_some] at HO2
      dsimp only at HO2
      obtain ⟨_, n5, n6, n7, n8⟩ := smallP_some hp
      obtain ⟨m2, rfl⟩ := Int.eq_ofNat_of_zero_le n7
      rw [Int.toNat_natCast] at HO2
      replace HO := Lib.hid HO2
      have F4 := Lib.hid (F3.out.took hr ho)
      have W4 := Lib.hid (W3.out.trans (only2 (q := q) ho))
      have T4 := Lib.hid (own_only T3.out ho (own_reader T3.out F3.out.rd (by decide)))
      clear ho hr F3 W3 T3 hp HO2 ht n5 n7 n8 hlt hk I3 n2
      go_wp2_with fail
      go_loopw [35] (fun vk wr => ∃ (j : Nat) (ys : List Row2) (lj : List UInt8) (vp : Value), j ≤ m2 ∧ vk = .int .i64 j ∧ ys.length = j ∧ Fill wr g q s lj { r with beg := bg } vt vp ∧ wr.ownsRow w.heap.size 94 2 vp j (rows2 ys) ∧ Only (Two g q) w wr ∧ Midst row2P m2 l6 ys lj ∧ wr.ownsRow w.heap.size 91 3 vt k (rows3 xs)) (fun vk _ => m2 - (intOf vk).toNat)
      case atStart => exact ⟨0, [], l6, _, Nat.zero_le _, rfl, rfl, F4.out, World.ownsRow_nil _ _ _ _, W4.out, Midst.start _ _ _, T4.out⟩
      case round =>
        obtain ⟨j, ys, lj, vp, hj, rfl, hyl, hf, hown, ho, hmid, ht⟩ := hrel
        clear F4 W4 T4
        have F3 := Lib.hid hf
        have OW := Lib.hid hown
        have W3 := Lib.hid ho
        have MI := Lib.hid hmid
        have YL := Lib.hid hyl
        have T3 := Lib.hid ht
        clear hf hown ho hmid hyl ht
        by_cases hlt : j < m2
        · go_wp2_with fail
          refine (rdPage_any F3.out.rd).mono ?_
          intro e w4 ht
          rcases ht.int with ⟨hp, rfl, ho⟩ | ⟨a, l3, hp1, rfl, hr, ho⟩
          · have HO2 := HO.out
            rw [MI.out.none (by rw [YL.out]; exact hlt) (row2_none1 hp)] at HO2
            obtain rfl : o = none := HO2
            have W := Lib.hid (W3.out.trans (only2 (q := q) ho))
            clear ho HO hp F3 ht OW MI W3 YL T3
            go_wp2
            exact ⟨rfl, rfl, W.out⟩
          have F4 := Lib.hid (F3.out.took hr ho)
          have W4 := Lib.hid (W3.out.trans (only2 (q := q) ho))
          have OW4 := Lib.hid (own_only OW.out ho (own_reader OW.out F3.out.rd (by decide)))
          have T4 := Lib.hid (own_only T3.out ho (own_reader T3.out F3.out.rd (by decide)))
          clear F3 W3 OW hr ho ht T3
          go_wp2_with fail
          refine (rdnum0 F4.out.rd).mono ?_
          intro e w5 ht
          rcases ht.int with ⟨hp, rfl, ho⟩ | ⟨b, l5, hp2, rfl, hr, ho⟩
          · have HO2 := HO.out
            rw [MI.out.none (by rw [YL.out]; exact hlt) (row2_none2 hp1 hp)] at HO2
            obtain rfl : o = none := HO2
            have W := Lib.hid (W4.out.trans (only2 (q := q) ho))
            clear ho HO hp F4 ht OW4 MI W4 YL hp1 T4
            go_wp2
            exact ⟨rfl, rfl, W.out⟩
          have F6 := Lib.hid (F4.out.took hr ho)
          have W6 := Lib.hid (W4.out.trans (only2 (q := q) ho))
          have OW6 := Lib.hid (own_only OW4.out ho (own_reader OW4.out F4.out.rd (by decide)))
          have T6 := Lib.hid (own_only T4.out ho (own_reader T4.out F4.out.rd (by decide)))
          have MI2 := Lib.hid (MI.out.some (by rw [YL.out]; exact hlt) (row2_some hp1 hp2))
          clear F4 W4 OW4 hr ho ht hp1 hp2 MI T4
          go_wp2_with fail
          have hbw : Below w5.heap.size w5 (w5.alloc (.cells #[.int .i64 a, .int .i64 b] 94)) := (Below.refl _ _).alloc (Nat.le_refl _) _
          have B7 := Lib.hid (Blk.new w5 94 #[.int .i64 a, .int .i64 b])
          have F7 := Lib.hid (F6.out.more hbw)
          have W7 := Lib.hid (W6.out.more hbw)
          have OW7 := Lib.hid (own_below OW6.out hbw)
          have T7 := Lib.hid (own_below T6.out hbw)
          have hsz : w.heap.size ≤ w5.heap.size := W6.out.size
          clear F6 W6 OW6 hbw T6
          change Code.wp _ _ _ _ (w5.alloc (.cells #[.int .i64 a, .int .i64 b] 94))
          generalize w5.heap.size = x at *
          generalize w5.alloc (.cells #[.int .i64 a, .int .i64 b] 94) = w7 at *
          obtain ⟨va, vc, hvs⟩ := own_slice OW7.out
          subst hvs
          obtain ⟨hi3, z31, z32, z33⟩ := id I2.out
          refine' wp_region_free [0] 7 [.is (.pointer (some ⟨q, 0, none⟩)), .is _, .is _, .is _, .is _, .is _, .slice w7.heap.size 1 94 #[.int .i64 a, .int .i64 b]] (by kernel_rfl) (by kernel_rfl) (by kernel_rfl) (by kernel_rfl) (by kernel_rfl) rfl ⟨rfl, trivial⟩ (fun _ _ _ _ _ h => h) ?main
          case main =>
            iterate 6
              refine obs_is (fun w8 hE2 _ => ?_) ?_
              · have f8 := F7.out.drew.more hE2
                have c9 := f8.row.cell 10
                simp [recCells] at c9
                have b8 := B7.out.drew.keep hE2 B7.out.lt
                clear f8
                go_wp2_with (refine wpList_load_row rfl 94 _ rfl x rfl 94 _ (0, 0) _ b8 Try.underlying94 rfl (by kernel_rfl) ?_)
                exact post_is (Below.refl _ _)
              simp only [Act.put, List.setIfInBounds_toArray, List.set_cons_zero, List.set_cons_succ]
            refine obs_slice (fun w8 hE2 _ => ?_) (fun qq => ?_)
            · go_wp2
              exact ⟨_, rfl, ⟨w8.heap.size, hE2.size, rfl, Blk.new _ _ _⟩, (Below.refl _ _).alloc (Nat.le_refl _) _⟩
            simp only [Act.put, List.setIfInBounds_toArray, List.set_cons_zero, List.set_cons_succ]
            refine obs_end fun w8 hE3 hkn => ?_
            obtain ⟨g2, _, rfl, hb2⟩ := hkn _ (List.mem_cons_self)
            have F8 := Lib.hid (F7.out.drew.more hE3)
            have W8 := Lib.hid (W7.out.drew.more hE3)
            have OW8 := Lib.hid (own_below OW7.out.drew hE3)
            have T8 := Lib.hid (own_below T7.out.drew hE3)
            have hown := OW8.out
            have lg := F8.out.row.lt
            have nq := own_blk hown F8.out.row (by decide)
            have c9 := F8.out.row.cell 10
            have z9 := F8.out.row.frozen 10
            simp [recCells] at c9
            clear hkn F7 W7 OW7 B7 T7
            go_wp2_with (at_builtin; refine wpList_append_own_at _ rfl (.tmp 46) (.tmp 48) 48 rfl w.heap.size 94 i2 (.agg #[.int .i64 0, .int .i64 0]) 2 16 Try.underlying48 hi3 z31 z32 z33 rfl (by decide) _ _ _ rfl hown ⟨g2, 0, none⟩ 1 1 [.int .i64 a, .int .i64 b] rfl rfl (World.news_of_block hb2) (by simp [Value.oneCell']) (by simp only [maxLen]; omega) (by omega) W8.out.size ?_)
            intro v' w9 hown9 hgrow _ hat
            have z10 := (hgrow.frozen_far ⟨q, 10, none⟩ lg (Ne.symm nq)).trans z9
            have c10 := (hgrow.cell_far ⟨q, 10, none⟩ lg (Ne.symm nq)).trans c9
            have P9 := Lib.hid (pushed (i := 10) (vt' := vt) (vp' := v') F8.out OW8.out hown9 hgrow (by decide) (by decide) rfl)
            have W9 := Lib.hid (pushedOnly (i := 10) (v' := v') W8.out OW8.out (Nat.le_refl _) hgrow)
            have T9 := Lib.hid (own_keep (w' := w9.setCell ⟨q, 10, none⟩ v') T8.out fun b hb => (heap_setCell_other w9 ⟨q, 10, none⟩ b _ (fun e => own_blk T8.out F8.out.row (by decide) (by rw [hb, e]))).trans
              (hgrow.block b (T8.out.lt b hb).2 (fun e => own_apart T8.out OW8.out (by decide) hb e.symm)))
            obtain ⟨ga, ca, hv9⟩ := own_slice hown9
            subst hv9
            clear F8 W8 OW8 hown lg nq c9 z9 hown9 hgrow hat hb2 T8
            go_wp2
            go_roundw
            case rel => exact ⟨j + 1, ys ++ [(a, b)], l5, _, by omega, by go_num, by rw [List.length_append, YL.out]; rfl, P9.out.1, by rw [rows2_snoc]; exact P9.out.2, W9.out, MI2.out, T9.out⟩
            case measure => simp [intOf]; omega
        · obtain rfl : j = m2 := by omega
          have HO2 := HO.out
          rw [MI.out.done YL.out, Option.map_some] at HO2
          dsimp only at HO2
          subst HO2
          clear MI HO
          have G := Lib.hid (show Fill wr g q s lj { r with beg := bg, txns := xs, pages := ys } vt vp ∧ Lists wr { r with beg := bg, txns := xs, pages := ys } vt vp ∧ Only (Two g q) w wr ∧ New w vt ∧ New w vp from
            ⟨⟨F3.out.rd, F3.out.row, F3.out.ne⟩, ⟨by show Elems wr vt xs.length (rows3 xs); rw [XL.out]; exact Elems.ofOwn T3.out, by show Elems wr vp ys.length (rows2 ys); rw [YL.out]; exact Elems.ofOwn OW.out⟩, W3.out, New.own T3.out (Nat.le_refl _), New.own OW.out (Nat.le_refl _)⟩)
          clear F3 T3 OW W3
          go_wp2
          go_end0
          exact ⟨rfl, _, _, G.out⟩
end Go.Proofs.Ytpcfhpffbogjmaa
