/- The statement MasterTurns, walked. -/
import Derived.Test.YtbjpnkjddfpmpaaMaK
import Derived.Test.YtbjpnkjddfpmpaaOps12
namespace Go.Proofs.Ytbjpnkjddfpmpaa
open Go.RowKit

theorem LiveD.setRow {w0 w : World} {F : Foot} {g p : Nat} {D : Dk} (h : LiveD w0 w F g D) (hn : ¬ F p) (hp : w0.heap.size ≤ p) (cs : Array Value) : LiveD w0 (w.setRow p cs) F g D :=
  ⟨h.disk.keep (fun b hb => setRow_other w p b cs (fun e => hn (e ▸ hb))) (by simp [World.setRow]), h.new, below_setRow h.below hp cs⟩
theorem LiveD.setCell {w0 w : World} {F : Foot} {g : Nat} {D : Dk} (h : LiveD w0 w F g D) {p : Addr} (hn : ¬ F p.block) (hp : w0.heap.size ≤ p.block) (v : Value) : LiveD w0 (w.setCell p v) F g D :=
  ⟨h.disk.keep (fun b hb => heap_setCell_other w p b v (fun e => hn (e ▸ hb))) (by simp [World.setCell]), h.new, h.below.setCell hp v⟩
/-- Between two masters: what the disk has, what is wanted, what was there. -/
structure Turns (w0 w : World) (F : Foot) (g : Nat) (D : Dk) (t : Nat) (want : Ms) (p q : Nat) (s0 s1 : ByteArray) : Prop where
  live : LiveD w0 w F g D
  mst : cdM.Mst D 0 t
  rd : cdM.rd D 0 = (t, want)
  want : Blk w p 30 #[.int .i64 want.check, .int .i64 want.low]
  was : Blk w q 44 #[.string s0, .string s1]
  np : ¬ F p
  nq : ¬ F q
  hp : w0.heap.size ≤ p
  hq : w0.heap.size ≤ q
  pq : p ≠ q
/-- A master was written; what is wanted is not yet. -/
structure Turned (w0 w : World) (F : Foot) (g : Nat) (D : Dk) (t : Nat) (m want : Ms) (p q : Nat) (s0 s1 : ByteArray) : Prop where
  live : LiveD w0 w F g D
  mst : cdM.Mst D 0 t
  rd : cdM.rd D 0 = (t, m)
  want : Blk w p 30 #[.int .i64 want.check, .int .i64 want.low]
  was : Blk w q 44 #[.string s0, .string s1]
  np : ¬ F p
  nq : ¬ F q
  hp : w0.heap.size ≤ p
  hq : w0.heap.size ≤ q
  pq : p ≠ q
theorem Turned.set {w0 w : World} {F : Foot} {g t p q : Nat} {D : Dk} {m want : Ms} {s0 s1 : ByteArray} (h : Turned w0 w F g D t m want p q s0 s1) : Turns w0 (w.setRow p #[.int .i64 m.check, .int .i64 m.low]) F g D t m p q s0 s1 :=
  ⟨h.live.setRow h.np h.hp _, h.mst, h.rd, h.want.setRow _, h.was.farRow (Ne.symm h.pq) _, h.np, h.nq, h.hp, h.hq, h.pq⟩
namespace Turns
variable {w0 w w' : World} {F F' : Foot} {g t p q : Nat} {D : Dk} {want : Ms} {s0 s1 : ByteArray}
theorem more (h : Turns w0 w F g D t want p q s0 s1) (hb : Below w.heap.size w w') : Turns w0 w' F g D t want p q s0 s1 :=
  ⟨h.live.more hb, h.mst, h.rd, h.want.keep hb h.want.lt, h.was.keep hb h.was.lt, h.np, h.nq, h.hp, h.hq, h.pq⟩
theorem setWas (h : Turns w0 w F g D t want p q s0 s1) (i : Nat) (s : ByteArray) : Turns w0 (w.setCell ⟨q, i, none⟩ (.string s)) F g D t want p q (if i = 0 then s else s0) (if i = 1 then s else s1) := by
  have far : ∀ b, b ≠ q → (w.setCell ⟨q, i, none⟩ (.string s)).heap[b]? = w.heap[b]? := fun b hb => heap_setCell_other w ⟨q, i, none⟩ b _ hb
  refine ⟨h.live.setCell h.nq h.hq _, h.mst, h.rd, (far _ h.pq).trans h.want, ?_, h.np, h.nq, h.hp, h.hq, h.pq⟩
  have := h.was.set i (.string s)
  match i with
  | 0 => exact this
  | 1 => exact this
  | i + 2 =>
    have e : (#[Value.string s0, .string s1]).setIfInBounds (i + 2) (.string s) = #[.string s0, .string s1] := by simp
    rw [e] at this
    rw [if_neg (by omega), if_neg (by omega)]
    exact this
theorem read (h : Turns w0 w F g D t want p q s0 s1) (i : Nat) (hi : i < 2) :
    Calls Try.prog 15 #[.pointer (some ⟨g, 0, none⟩), .int .i64 i] w fun e w' => e = .returned (.tuple #[.string (Cd.sec D 0 i), .int .i64 0]) ∧ Turns w0 w' F g D t want p q s0 s1 ∧ Below w.heap.size w w' := by
  have hh : D.has (i : Int) := by
    have := Cd.at_has h.mst.fit i
    rwa [show Cd.side 0 i = (i : Int) by unfold Cd.side; omega] at this
  have k := h.mst.rest.sector hh
  have := h.live.read i
  rw [k.1, k.2] at this
  refine this.mono fun e w' ⟨he, _, hb⟩ => ⟨?_, h.more hb, hb⟩
  rw [he]
  unfold Cd.sec
  simp
theorem write (h : Turns w0 w F g D t want p q s0 s1) {m : Ms} (hm : m.May) (ht : t ≤ 100) :
    Calls Try.prog 13 #[.pointer (some ⟨g, 0, none⟩), .int .i64 0, .int .u32 ((t : Int) + 1), .agg #[.int .i64 m.check, .int .i64 m.low]] w fun e w' => e = .returned (.int .i64 0) ∧ ∃ F' D', Turned w0 w' F' g D' (t + 1) m want p q s0 s1 ∧ Step F F' w w' ∧ Cd.sec D' 0 ((t + 1 + 1) % 2) = Cd.sec D 0 ((t + 1 + 1) % 2) := by
  have hw := h.mst.write cdM hm (by omega)
  rw [h.rd] at hw
  obtain ⟨k1, k2, k3⟩ := hw
  have := h.live.mwrite 0 (t + 1) m (by omega) (by rw [h.mst.rest.waits]; decide)
  rw [k1, show ((t + 1 : Nat) : Int) = (t : Int) + 1 by omega] at this
  refine this.mono fun e w' ⟨he, F', L, S⟩ => ⟨he, F', _, ?_, S, h.mst.rest.other cdM h.mst.fit (t + 1) hm⟩
  obtain ⟨a1, a2⟩ := step_apart S h.want h.np
  obtain ⟨b1, b2⟩ := step_apart S h.was h.nq
  exact ⟨L, k2, k3, a1, b1, a2, b2, h.hp, h.hq, h.pq⟩
end Turns
theorem Turns.start {w0 w : World} {F : Foot} {g : Nat} (h : LiveD w0 w F g (Dk.new 2)) :
    Turns w0 ((w.alloc (.cells #[.int .i64 0, .int .i64 1] 30)).alloc (.cells #[.string ⟨#[]⟩, .string ⟨#[]⟩] 44)) F g (Dk.new 2) 0 Ms.none w.heap.size (w.heap.size + 1) ⟨#[]⟩ ⟨#[]⟩ := by
  have h1 := h.more ((Below.refl _ _).alloc (Nat.le_refl _) (.cells #[.int .i64 0, .int .i64 1] 30))
  have h2 := h1.more ((Below.refl _ _).alloc (Nat.le_refl _) (.cells #[.string ⟨#[]⟩, .string ⟨#[]⟩] 44))
  have c := Blk.new (w.alloc (.cells #[.int .i64 0, .int .i64 1] 30)) 44 #[.string ⟨#[]⟩, .string ⟨#[]⟩]
  rw [World.size_alloc] at c
  have hs := h.below.size
  exact ⟨h2, Aw12.mst0, Aw12.rd0, (Blk.new _ _ _).alloc _, c, fun k => Nat.lt_irrefl _ (h.disk.lt _ k), fun k => by have := h.disk.lt _ k; omega, hs, by omega, by omega⟩
/-- What stands at the loop's head. -/
def TurnsAt (w0 w : World) (g n p q : Nat) (k : Nat) (t : Nat) : Prop := k ≤ n ∧ t ≤ k ∧ ∃ F D want s0 s1, Turns w0 w F g D t want p q s0 s1
set_option maxRecDepth 100000 in
set_option maxHeartbeats 16000000 in
theorem walkMasterTurns (v : Value) (l : List Ms) (w : World) (hv : IsMss w v l) :
    Calls Try.prog 5 #[v] w fun e w' => e = .returned (.bool true) ∧ Below w.heap.size w w' := by
  have HV := Lib.hid hv
  obtain ⟨a, cap, rfl, h1, h2, _⟩ := hv
  have hm : (l.length : Int) ≤ 9223372036854775807 := by unfold maxLen at h2; omega
  clear h1 h2
  go_enter Try.func5, Try.ntmps5
  go_wp2_with fail
  refine (LiveD.made (Below.refl w.heap.size w) 2 (by decide) (by decide)).mono ?_
  rintro e w2 ⟨g, F2, rfl, L2, _⟩
  go_wp2_with fail
  refine (awake12_any _).mono ?_
  rintro e w3 ⟨rfl, hb3⟩
  have L3 := L2.more hb3
  clear L2 hb3
  by_cases hlong : 100 < l.length
  · go_wp2_with fail
    refine (awake12_any _).mono ?_
    rintro e w9 ⟨rfl, hb9⟩
    have HE := Lib.hid (L3.more hb9).below
    clear L3 hb9
    go_wp2
    go_ret
    exact ⟨rfl, HE.out⟩
  · have T0 := Lib.hid (Turns.start L3)
    go_upto_region 6 with fail
    change Code.wp _ _ _ _ ((w3.alloc (.cells #[.int .i64 0, .int .i64 1] 30)).alloc (.cells #[.string ⟨#[]⟩, .string ⟨#[]⟩] 44))
    generalize ((w3.alloc (.cells #[.int .i64 0, .int .i64 1] 30)).alloc (.cells #[.string ⟨#[]⟩, .string ⟨#[]⟩] 44)) = w4 at *
    clear L3
    obtain ⟨P, hP⟩ : ∃ P, Hid (P = w3.heap.size) := ⟨_, rfl⟩
    rw [← hP.out] at T0 ⊢
    go_wp2_with fail
    go_loopw [6, 39] (fun vt vk wr => ∃ k t : Nat, vk = .int .i64 k ∧ vt = .int .u32 t ∧ TurnsAt w wr g l.length P (P + 1) k t) (fun _ vk _ => l.length - (intOf vk).toNat)
    case atStart => exact ⟨0, 0, rfl, rfl, Nat.zero_le _, Nat.le_refl _, F2, _, _, _, _, T0.out⟩
    case round =>
      obtain ⟨k, t, rfl, rfl, hk, ht, F, D, want, s0, s1, T⟩ := hrel
      clear T0
      have hk100 : k ≤ 100 := by omega
      have ht100 : t ≤ 100 := by omega
      clear hlong
      by_cases hlt : k < l.length
      · obtain ⟨b, off, cap', hva, _, _, hbw, hel⟩ := HV.out.at_ (by omega)
        cases hva
        obtain ⟨hwf, e0, e1⟩ := hel k hlt
        have HB := Lib.hid T.live.below
        have c0 := (HB.out.cell (p := ⟨b, off + k * 2, none⟩) hbw).trans e0
        have c1 := (HB.out.cell (p := ⟨b, off + k * 2 + 1, none⟩) hbw).trans e1
        clear hel e0 e1 hwf
        generalize l[k] = m at *
        have HM := Lib.hid (fun W => refMay12_any m.check m.low W (decide m.May) rfl)
        have HT := Lib.hid T
        clear T
        go_wp2_with fail
        have M5 := Blk.new wr 30 #[.int .i64 m.check, .int .i64 m.low]
        have T5 := HT.out.more ((Below.refl _ _).alloc (Nat.le_refl _) (.cells #[.int .i64 m.check, .int .i64 m.low] 30))
        have n5 : ¬ F wr.heap.size := fun h => Nat.lt_irrefl _ (HT.out.live.disk.lt _ h)
        have hPl : P + 1 < wr.heap.size := HT.out.was.lt
        by_cases hmy : m.May
        · rw [decide_eq_true hmy] at HM
          refine (HM.out _).mono ?_
          rintro e w6 ⟨rfl, hb6⟩
          have T6 := Lib.hid (T5.more hb6)
          have M6 := Lib.hid (M5.keep hb6 M5.lt)
          have HMY := Lib.hid hmy
          clear M5 T5 hb6 HT HM c0 c1 HB hmy
          go_wp2_with fail
          refine wp_loop_rounds 3 ?_
          rw [rounds_succ]
          go_wp2_with fail
          refine (T6.out.read 0 (by decide)).mono ?_
          rintro e w7 ⟨rfl, T7, hb7⟩
          have k7 := T7.was.cell 0
          have f7 := T7.was.frozen 0
          simp at k7
          have T8 := Lib.hid (T7.setWas 0 (Cd.sec D 0 0))
          have M8 : Hid (Blk (w7.setCell ⟨P + 1, 0, none⟩ (.string (Cd.sec D 0 0))) wr.heap.size 30 #[.int .i64 m.check, .int .i64 m.low]) := (heap_setCell_other w7 ⟨P + 1, 0, none⟩ wr.heap.size _ (by show wr.heap.size ≠ P + 1; omega)).trans (M6.out.keep hb7 M6.out.lt)
          clear T7 T6 M6 hb7
          go_wp2_with fail
          clear k7 f7
          generalize w7.setCell ⟨P + 1, 0, none⟩ (.string (Cd.sec D 0 0)) = w8 at *
          rw [rounds_succ]
          go_wp2_with fail
          refine (T8.out.read 1 (by decide)).mono ?_
          rintro e w9 ⟨rfl, T9, hb9⟩
          have k9 := T9.was.cell 1
          have f9 := T9.was.frozen 1
          simp at k9
          have T10 := Lib.hid (T9.setWas 1 (Cd.sec D 0 1))
          have M10 : Hid (Blk (w9.setCell ⟨P + 1, 1, none⟩ (.string (Cd.sec D 0 1))) wr.heap.size 30 #[.int .i64 m.check, .int .i64 m.low]) := (heap_setCell_other w9 ⟨P + 1, 1, none⟩ wr.heap.size _ (by show wr.heap.size ≠ P + 1; omega)).trans (M8.out.keep hb9 M8.out.lt)
          clear T9 T8 M8 hb9
          go_wp2_with fail
          clear k9 f9
          generalize w9.setCell ⟨P + 1, 1, none⟩ (.string (Cd.sec D 0 1)) = w10 at *
          rw [rounds_succ]
          simp only [if_true, if_neg (show ¬ ((1 : Nat) = 0) by decide), if_neg (show ¬ ((0 : Nat) = 1) by decide)] at T10
          have MM := M10.out
          go_wp2_with (refine wpList_load_rowG rfl 30 _ rfl wr.heap.size rfl 30 _ (0, 0) _ MM Try.underlying30 rfl (by kernel_rfl) ?_)
          refine (T10.out.write HMY.out ht100).mono ?_
          rintro e w11 ⟨rfl, F11, D11, T11, S11, hs11⟩
          obtain ⟨M11, n11⟩ := step_apart S11 MM n5
          have HS11 := Lib.hid hs11
          have HT12 := Lib.hid T11.set
          have W11 := T11.want
          have M12 := M11.farRow (show wr.heap.size ≠ P by omega) #[.int .i64 m.check, .int .i64 m.low]
          clear T10 M10 MM S11 hs11 T11 HMY
          go_upto_region 19 with (first
            | (refine wpList_load_rowG rfl 30 _ rfl wr.heap.size rfl 30 _ (0, 0) _ M11 Try.underlying30 rfl (by kernel_rfl) ?_)
            | (refine wpList_store_row rfl 30 _ _ rfl P _ rfl rfl 30 _ W11 (by kernel_rfl) (by simp) (by simp [Value.oneCell']) ?_))
          clear M11 W11 M12
          generalize w11.setRow P #[.int .i64 m.check, .int .i64 m.low] = w12 at *
          rcases Nat.mod_two_eq_zero_or_one t with hpar | hpar
          · have hj : ((t : Int) + 1 + 1) % 2 = 0 := by omega
            have hs : Cd.sec D11 0 0 = Cd.sec D 0 0 := by have := HS11.out; rwa [show (t + 1 + 1) % 2 = 0 by omega] at this
            have HR := Lib.hid (HT12.out.read 0 (by decide))
            rw [hs] at HR
            clear HS11 hpar hs
            go_wp2_with fail
            refine HR.out.mono ?_
            rintro e w13 ⟨rfl, T13, _⟩
            have k13 := T13.was.cell 0
            simp at k13
            have HT13 := Lib.hid T13
            have hne : ((Cd.sec D 0 0).toList == (Cd.sec D 0 0).toList) = true := by simp
            clear T13 HR HT12
            generalize hx : Cd.sec D 0 0 = x0 at *
            clear hx
            go_wp2
            go_roundw
            case rel => exact ⟨k + 1, t + 1, by go_num, by go_num, by omega, by omega, F11, D11, m, _, _, HT13.out⟩
            case measure => simp [intOf]; omega
          · have hj : ((t : Int) + 1 + 1) % 2 = 1 := by omega
            have hs : Cd.sec D11 0 1 = Cd.sec D 0 1 := by have := HS11.out; rwa [show (t + 1 + 1) % 2 = 1 by omega] at this
            have HR := Lib.hid (HT12.out.read 1 (by decide))
            rw [hs] at HR
            clear HS11 hpar hs
            go_wp2_with fail
            refine HR.out.mono ?_
            rintro e w13 ⟨rfl, T13, _⟩
            have k13 := T13.was.cell 1
            simp at k13
            have HT13 := Lib.hid T13
            have hne : ((Cd.sec D 0 1).toList == (Cd.sec D 0 1).toList) = true := by simp
            clear T13 HR HT12
            generalize hx : Cd.sec D 0 1 = x1 at *
            clear hx
            go_wp2
            go_roundw
            case rel => exact ⟨k + 1, t + 1, by go_num, by go_num, by omega, by omega, F11, D11, m, _, _, HT13.out⟩
            case measure => simp [intOf]; omega
        · rw [decide_eq_false hmy] at HM
          refine (HM.out _).mono ?_
          rintro e w6 ⟨rfl, hb6⟩
          have T6 := Lib.hid (T5.more hb6)
          clear M5 T5 hb6 HT HM c0 c1 HB hmy hbw
          go_wp2
          go_roundw
          case rel => exact ⟨k + 1, t, by go_num, rfl, by omega, by omega, F, D, _, _, _, T6.out⟩
          case measure => simp [intOf]; omega
      · obtain rfl : k = l.length := by omega
        have hE : Cd.readE D 0 = 0 ∧ cdM.read D 0 = (t, want) := by
          have := T.mst.rest.read cdM T.mst.fit
          exact ⟨this.1, this.2.trans T.rd⟩
        have HR := T.live.mread 0
        rw [hE.1, hE.2] at HR
        have HR2 := Lib.hid HR
        have HT := Lib.hid T
        clear HR T hE
        go_wp2_with fail
        refine HR2.out.mono ?_
        rintro e w5 ⟨rfl, _, hb5⟩
        have T6 := (HT.out.more hb5).more ((Below.refl _ _).alloc (Nat.le_refl _) (.cells #[.int .i64 want.check, .int .i64 want.low] 30))
        have X6 := Blk.new w5 30 #[.int .i64 want.check, .int .i64 want.low]
        have W6 := T6.want
        have HB := Lib.hid T6.live.below
        have hEq : (want.check == want.check && want.low == want.low) = true := by simp
        clear T6 HR2 HT hb5
        go_wp2_with (first
          | (refine wpList_load_rowG rfl 30 _ rfl w5.heap.size rfl 30 _ (0, 0) _ X6 Try.underlying30 rfl (by kernel_rfl) ?_)
          | (refine wpList_load_rowG rfl 30 _ rfl P rfl 30 _ (0, 0) _ W6 Try.underlying30 rfl (by kernel_rfl) ?_)
          | (refine wp_ms_eql _ _ _ rfl rfl _ _ _ _ rfl rfl ?_))
        go_ret
        exact ⟨rfl, HB.out⟩
end Go.Proofs.Ytbjpnkjddfpmpaa
