/- The statement MasterOne, walked. -/
import Derived.Test.YtbjpnkjddfpmpaaMaL
namespace Go.Proofs.Ytbjpnkjddfpmpaa
open Go.RowKit

theorem wp_ms_neqB {ops : Array Oper} {rest : List Oper} {o : Oper} {a : Act} {w : World} {Q : Exit → Act → World → Prop} (A A' B B' : Int) (b : Bool) (hb : (!(A == A' && B == B')) = b) (x y : Operand) (ty : TypeId) (ho : o.op = .binOp .neq 30 x y ty)
    (hw : Region.wanted o (yielded ops a.tmps) = true) (hx : a.eval x = .agg #[.int .i64 A, .int .i64 B]) (hy : a.eval y = .agg #[.int .i64 A', .int .i64 B'])
    (h : wpList Try.prog ops Q rest (a.put o.dst (.bool b)) w) : wpList Try.prog ops Q (o :: rest) a w :=
  wp_ms_neq x y ty ho hw A A' B B' hx hy (by rw [hb]; exact h)
/-- A disk with masters up to the ticket k: what is read, and what was. -/
structure Ones (w0 w : World) (F : Foot) (g : Nat) (D : Dk) (k : Nat) (now was : Ms) (p : Nat) : Prop where
  live : LiveD w0 w F g D
  mst : cdM.Mst D 0 k
  rd : (cdM.rd D 0).2 = now
  was : Blk w p 30 #[.int .i64 was.check, .int .i64 was.low]
  np : ¬ F p
  hp : w0.heap.size ≤ p
theorem Cd.rest_waits12 {D : Dk} (h : Cd.Rest D) (f : Nat) : (D.arm f).waits.length < 16777216 ∧ D.waits.length < 16777216 := rest_waits h f
namespace Ones
variable {w0 w w' : World} {F F' : Foot} {g k p : Nat} {D : Dk} {now was m : Ms}
theorem more (h : Ones w0 w F g D k now was p) (hb : Below w.heap.size w w') : Ones w0 w' F g D k now was p := ⟨h.live.more hb, h.mst, h.rd, h.was.keep hb h.was.lt, h.np, h.hp⟩
theorem mono (h : Ones w0 w F g D k now was p) : Ones w0 w F g D (k + 1) now was p := ⟨h.live, h.mst.mono cdM (by omega), h.rd, h.was, h.np, h.hp⟩
theorem start (h : LiveD w0 w F g (Dk.new 2)) : Ones w0 (w.alloc (.cells #[.int .i64 0, .int .i64 1] 30)) F g (Dk.new 2) 0 Ms.none Ms.none w.heap.size :=
  ⟨h.more ((Below.refl _ _).alloc (Nat.le_refl _) _), Aw12.mst0, congrArg Prod.snd Aw12.rd0, Blk.new _ _ _, fun k => Nat.lt_irrefl _ (h.disk.lt _ k), h.below.size⟩
theorem set (h : Ones w0 w F g D k now was p) : Ones w0 (w.setRow p #[.int .i64 now.check, .int .i64 now.low]) F g D k now now p := ⟨h.live.setRow h.np h.hp _, h.mst, h.rd, h.was.setRow _, h.np, h.hp⟩
theorem read (h : Ones w0 w F g D k now was p) :
    Calls Try.prog 10 #[.pointer (some ⟨g, 0, none⟩), .int .i64 0] w fun e w' => e = .returned (.tuple #[.agg #[.int .i64 now.check, .int .i64 now.low], .int .u32 (cdM.rd D 0).1, .int .i64 0]) ∧ Ones w0 w' F g D k now was p ∧ Below w.heap.size w w' := by
  have k1 := h.mst.rest.read cdM h.mst.fit
  have := h.live.mread 0
  rw [k1.1, k1.2, h.rd] at this
  exact this.mono fun e w' ⟨he, _, hb⟩ => ⟨he, h.more hb, hb⟩
theorem plain (h : Ones w0 w F g D k now was p) (hm : m.May) (hk : k ≤ 1000) :
    Calls Try.prog 13 #[.pointer (some ⟨g, 0, none⟩), .int .i64 0, .int .u32 (((cdM.rd D 0).1 : Int) + 1), .agg #[.int .i64 m.check, .int .i64 m.low]] w fun e w' => e = .returned (.int .i64 0) ∧ ∃ F' D', Ones w0 w' F' g D' (k + 1) m was p ∧ Step F F' w w' := by
  have hle := h.mst.le cdM
  obtain ⟨k1, k2, k3⟩ := h.mst.write cdM hm (by omega)
  have := h.live.mwrite 0 ((cdM.rd D 0).1 + 1) m (by omega) (by rw [h.mst.rest.waits]; decide)
  rw [k1, show (((cdM.rd D 0).1 + 1 : Nat) : Int) = ((cdM.rd D 0).1 : Int) + 1 by omega] at this
  refine this.mono fun e w' ⟨he, F', L, S⟩ => ⟨he, F', cdM.write D 0 ((cdM.rd D 0).1 + 1) m, ?_, S⟩
  obtain ⟨a1, a2⟩ := step_apart S h.was h.np
  exact ⟨L, k2, congrArg Prod.snd k3, a1, a2, h.hp⟩
/-- What stands behind a crash. -/
theorem crashed (h : cdM.Mst D 0 k) (hr : (cdM.rd D 0).2 = now) (hm : m.May) (hk : k ≤ 1000) (f : Nat) (ps : List UInt8) {w : World} {F : Foot} (L : LiveD w0 w F g ((cdM.write (D.arm f) 0 ((cdM.rd D 0).1 + 1) m).crash ps)) (hw : Blk w p 30 #[.int .i64 was.check, .int .i64 was.low]) (hn : ¬ F p) (hp : w0.heap.size ≤ p) :
    ∃ D' n, Ones w0 w F g D' (k + 1) n was p ∧ (n = m ∨ (cdM.writeE (D.arm f) 0 ((cdM.rd D 0).1 + 1) m ≠ 0 ∧ n = now)) := by
  have hle := h.le cdM
  obtain ⟨k1, k2⟩ := h.crashed cdM hm (by omega) f ps
  refine ⟨_, _, ⟨L, k1, rfl, hw, hn, hp⟩, ?_⟩
  rcases k2 with e | ⟨e1, e2⟩
  · exact .inl (by rw [e])
  · exact .inr ⟨e1, by rw [e2, hr]⟩
end Ones
/-- What stands at the loop's head. -/
def OnesAt (w0 w : World) (g n p : Nat) (k : Nat) : Prop := k ≤ n ∧ ∃ F D now, Ones w0 w F g D k now now p
set_option maxRecDepth 100000 in
set_option maxHeartbeats 16000000 in
theorem walkMasterOne (v : Value) (ops : List Op12) (w : World) (hv : IsOps12 w v ops) :
    Calls Try.prog 3 #[v] w fun e w' => e = .returned (.bool true) ∧ Below w.heap.size w w' := by
  have HV := Lib.hid hv
  obtain ⟨a, cap, rfl, h1, h2, _⟩ := hv
  have hm : (ops.length : Int) ≤ 9223372036854775807 := by unfold maxLen at h2; omega
  have HLG : Hid (∀ W, Below w.heap.size w W → _) := fun W hW => long12_any _ ops W (HV.out.keep hW) (decide (isLong12 ops)) (by simp)
  clear h1 h2
  go_enter Try.func3, Try.ntmps3
  go_wp2_with fail
  refine (LiveD.made (Below.refl w.heap.size w) 2 (by decide) (by decide)).mono ?_
  rintro e w2 ⟨g, F2, rfl, L2, _⟩
  go_wp2_with fail
  refine (awake12_any _).mono ?_
  rintro e w3 ⟨rfl, hb3⟩
  have L3 := L2.more hb3
  clear L2 hb3
  go_wp2_with fail
  refine (HLG.out _ L3.below).mono ?_
  rintro e w4 ⟨rfl, hb4⟩
  have L4 := L3.more hb4
  clear L3 hb4 HLG
  by_cases hlong : isLong12 ops
  · rw [decide_eq_true hlong]
    clear hlong
    go_wp2_with fail
    refine (awake12_any _).mono ?_
    rintro e w9 ⟨rfl, hb9⟩
    have HE := Lib.hid (L4.more hb9).below
    clear L4 hb9
    go_wp2
    go_ret
    exact ⟨rfl, HE.out⟩
  · rw [decide_eq_false hlong]
    have hn300 : ops.length ≤ 300 := Nat.le_of_not_lt fun h => hlong (.inr h)
    clear hlong
    have T0 := Lib.hid (Ones.start L4)
    go_upto_region 5 with fail
    change Code.wp _ _ _ _ (w4.alloc (.cells #[.int .i64 0, .int .i64 1] 30))
    generalize (w4.alloc (.cells #[.int .i64 0, .int .i64 1] 30)) = w5 at *
    clear L4
    obtain ⟨P, hP⟩ : ∃ P, Hid (P = w4.heap.size) := ⟨_, rfl⟩
    rw [← hP.out] at T0 ⊢
    go_wp2_with fail
    go_loopw [38] (fun vk wr => ∃ k : Nat, vk = .int .i64 k ∧ OnesAt w wr g ops.length P k) (fun vk _ => ops.length - (intOf vk).toNat)
    case atStart => exact ⟨0, rfl, Nat.zero_le _, F2, _, _, T0.out⟩
    case round =>
      obtain ⟨k, rfl, hk, F, D, now, T⟩ := hrel
      clear T0
      have hk300 : k ≤ 300 := by omega
      by_cases hlt : k < ops.length
      · obtain ⟨b, off, cap', hva, _, _, hbw, hel⟩ := HV.out.at_ (by omega)
        cases hva
        obtain ⟨ka, kc, hrd, hwf, hown, hc⟩ := hel k hlt
        have HB := Lib.hid T.live.below
        obtain ⟨c0, c1, c2, c3, c4, c5⟩ := hc.keep HB.out
        have HRD := Lib.hid hrd
        have HOWN := Lib.hid hown
        clear hel hc hwf hrd hown
        generalize ops[k] = o at *
        obtain ⟨kind, nn, tick, m, picks⟩ := o
        simp only at c0 c1 c2 c3 c4 c5 HRD HOWN
        have O2 := (Blk.new wr 34 op12Zero).setRow (op12Cells ⟨kind, nn, tick, m, picks⟩ (.slice ka picks.length kc))
        have hn := Blk.new wr 34 op12Zero
        have hb3 : Below wr.heap.size wr ((wr.alloc (.cells op12Zero 34)).setRow wr.heap.size (op12Cells ⟨kind, nn, tick, m, picks⟩ (.slice ka picks.length kc))) := below_setRow ((Below.refl _ _).alloc (Nat.le_refl _) _) (Nat.le_refl _) _
        have T2 := T.more hb3
        have nO : ¬ F wr.heap.size := fun h => Nat.lt_irrefl _ (T.live.disk.lt _ h)
        have hPl : P < wr.heap.size := T.was.lt
        go_upto_region 8 with (refine wpList_store_row rfl 34 _ _ rfl wr.heap.size _ rfl rfl 34 _ hn (by kernel_rfl) rfl (by simp [Value.oneCell']) ?_)
        clear hn hb3 c0 c1 c2 c3 c4 c5 HB hbw
        change Code.wp _ _ _ _ ((wr.alloc (.cells op12Zero 34)).setRow wr.heap.size (op12Cells ⟨kind, nn, tick, m, picks⟩ (.slice ka picks.length kc)))
        generalize (wr.alloc (.cells op12Zero 34)).setRow wr.heap.size (op12Cells ⟨kind, nn, tick, m, picks⟩ (.slice ka picks.length kc)) = w6 at *
        clear T
        obtain ⟨x, hx⟩ : ∃ x, x = wr.heap.size := ⟨_, rfl⟩
        rw [← hx] at O2 nO hPl ⊢
        clear hx
        go_wp2_with fail
        refine T2.read.mono ?_
        rintro e w7 ⟨rfl, T7, hb7⟩
        have O7 := O2.keep hb7 O2.lt
        have hx7 : x < w7.heap.size := O7.lt
        have hP7 : P < w7.heap.size := T7.was.lt
        have M8 := Blk.new w7 30 #[.int .i64 now.check, .int .i64 now.low]
        have hbA := (Below.refl w7.heap.size w7).alloc (Nat.le_refl _) (.cells #[.int .i64 now.check, .int .i64 now.low] 30)
        have T8 := T7.more hbA
        have O8 := O7.keep hbA O7.lt
        have W8 := T8.was
        have hEq : (!(now.check == now.check && now.low == now.low)) = false := by simp
        clear T2 O2 hb7 T7 O7 hbA
        go_upto_region 11 with (first
          | (refine wpList_load_rowG rfl 30 _ rfl w7.heap.size rfl 30 _ (0, 0) _ M8 Try.underlying30 rfl (by kernel_rfl) ?_)
          | (refine wpList_load_rowG rfl 30 _ rfl P rfl 30 _ (0, 0) _ W8 Try.underlying30 rfl (by kernel_rfl) ?_))
        generalize w7.alloc (.cells #[.int .i64 now.check, .int .i64 now.low] 30) = w8 at *
        clear M8 W8 hEq
        have HM := Lib.hid (fun W => refMay12_any m.check m.low W (decide m.May) rfl)
        have q3 : w8.cell? ⟨x, 3, none⟩ = some (.int .i64 m.check) := O8.cell 3
        have q4 : w8.cell? ⟨x, 4, none⟩ = some (.int .i64 m.low) := O8.cell 4
        go_wp2_with fail
        by_cases hmy : m.May
        rotate_left
        · rw [decide_eq_false hmy] at HM
          refine (HM.out _).mono ?_
          rintro e w9 ⟨rfl, hb9⟩
          have T9 := Lib.hid (T8.more hb9)
          clear O8 T8 q3 q4 HM hb9 hmy
          go_wp2
          go_roundw
          case rel => exact ⟨k + 1, by go_num, by omega, F, D, now, T9.out.mono⟩
          case measure => simp [intOf]; omega
        rw [decide_eq_true hmy] at HM
        refine (HM.out _).mono ?_
        rintro e w9 ⟨rfl, hb9⟩
        have T9 := T8.more hb9
        have O9 := O8.keep hb9 O8.lt
        clear O8 T8 q3 q4 HM hb9
        have hle : (cdM.rd D 0).1 ≤ k := T9.mst.le cdM
        have c0 : w9.cell? ⟨x, 0, none⟩ = some (.int .i64 kind) := O9.cell 0
        have c1 : w9.cell? ⟨x, 1, none⟩ = some (.int .i64 nn) := O9.cell 1
        have c3 : w9.cell? ⟨x, 3, none⟩ = some (.int .i64 m.check) := O9.cell 3
        have c4 : w9.cell? ⟨x, 4, none⟩ = some (.int .i64 m.low) := O9.cell 4
        by_cases hk1 : kind = 1
        · subst hk1
          have HW := Lib.hid (T9.plain hmy (by omega))
          clear T9 hmy
          go_wp2_with fail
          refine HW.out.mono ?_
          rintro e w10 ⟨rfl, F10, D10, T10, S10⟩
          obtain ⟨O10, n10⟩ := step_apart S10 O9 nO
          clear O9 S10 HW c0 c1 c3 c4
          go_wp2_with fail
          refine T10.read.mono ?_
          rintro e w11 ⟨rfl, T11, hb11⟩
          have O11 := O10.keep hb11 O10.lt
          have hx11 : x < w11.heap.size := O11.lt
          have hP11 : P < w11.heap.size := T11.was.lt
          clear T10 O10 hb11
          have X11 := Blk.new w11 30 #[.int .i64 m.check, .int .i64 m.low]
          have hbB := (Below.refl w11.heap.size w11).alloc (Nat.le_refl _) (.cells #[.int .i64 m.check, .int .i64 m.low] 30)
          have TB := T11.more hbB
          have OB := O11.keep hbB O11.lt
          have WB := TB.was
          have TC := Lib.hid TB.set
          have k3 : (w11.alloc (.cells #[.int .i64 m.check, .int .i64 m.low] 30)).cell? ⟨x, 3, none⟩ = some (.int .i64 m.check) := OB.cell 3
          have k4 : (w11.alloc (.cells #[.int .i64 m.check, .int .i64 m.low] 30)).cell? ⟨x, 4, none⟩ = some (.int .i64 m.low) := OB.cell 4
          clear T11 O11 hbB TB OB
          have wb0 := WB.cell 0
          have wb1 := WB.cell 1
          simp at wb0 wb1
          go_upto_region 21 with fail
          go_upto_region 22 with (refine wpList_store_row rfl 30 _ _ rfl P _ rfl rfl 30 _ WB (by kernel_rfl) (by simp) (by simp [Value.oneCell']) ?_)
          clear wb0 wb1
          clear X11 WB k3 k4
          generalize (w11.alloc (.cells #[.int .i64 m.check, .int .i64 m.low] 30)).setRow P #[.int .i64 m.check, .int .i64 m.low] = w20 at *
          go_wp2
          go_roundw
          case rel => exact ⟨k + 1, by go_num, by omega, F10, D10, m, TC.out⟩
          case measure => simp [intOf]; omega
        · have HK := Lib.hid (modN_eq nn 4 (by decide) (by decide))
          have HK2 := modN_lt nn 4 (by decide)
          have hkb : (kind == 1) = false := by simpa using hk1
          have hkb2 : (kind != 1) = true := by simpa using hk1
          have HT9 := Lib.hid T9
          have HHK := Lib.hid HK2
          have c5 : w9.cell? ⟨x, 5, none⟩ = some (.slice ka picks.length kc) := O9.cell 5
          clear T9 hk1 HK2
          go_wp2_with fail
          rw [HK.out]
          have HK2 := HHK.out
          clear HK HHK
          generalize modN nn 4 = f at *
          have hf4 : f < 4 := by omega
          clear HK2
          have T9 := HT9.out
          refine (T9.live.arm f (by omega)).mono ?_
          rintro e w10 ⟨rfl, L10, S10⟩
          obtain ⟨W10, np10⟩ := step_apart S10 T9.was T9.np
          obtain ⟨O10, n10⟩ := step_apart S10 O9 nO
          have HW := Lib.hid (L10.mwrite 0 ((cdM.rd D 0).1 + 1) m (by omega) (Cd.rest_waits12 T9.mst.rest f).1)
          rw [show (((cdM.rd D 0).1 + 1 : Nat) : Int) = ((cdM.rd D 0).1 : Int) + 1 by omega] at HW
          have d3 : w10.cell? ⟨x, 3, none⟩ = some (.int .i64 m.check) := O10.cell 3
          have d4 : w10.cell? ⟨x, 4, none⟩ = some (.int .i64 m.low) := O10.cell 4
          clear T9 L10 S10 O9 c0 c1 c3 c4 c5
          go_wp2_with fail
          refine HW.out.mono ?_
          rintro e w11 ⟨rfl, F11, L11, S11⟩
          obtain ⟨W11, np11⟩ := step_apart S11 W10 np10
          obtain ⟨O11, n11⟩ := step_apart S11 O10 n10
          have d5 : w11.cell? ⟨x, 5, none⟩ = some (.slice ka picks.length kc) := O11.cell 5
          clear HW S11 W10 O10 n10 np10 d3 d4
          go_wp2_with fail
          refine (L11.crash _ picks (HRD.out.keep L11.below) HOWN.out).mono ?_
          rintro e w12 ⟨rfl, L12, S12⟩
          obtain ⟨W12, np12⟩ := step_apart S12 W11 np11
          obtain ⟨O12, n12⟩ := step_apart S12 O11 n11
          obtain ⟨D12, n, T12, hcase⟩ := Ones.crashed HT9.out.mst HT9.out.rd hmy (by omega) f picks L12 W12 np12 HT9.out.hp
          have HC := Lib.hid hcase
          clear hcase L11 L12 S12 W11 W12 O11 np11 np12 n11 HT9 hmy d5
          generalize cdM.writeE (D.arm f) 0 ((cdM.rd D 0).1 + 1) m = fe at *
          go_wp2_with fail
          refine T12.read.mono ?_
          rintro e w13 ⟨rfl, T13, hb13⟩
          have O13 := O12.keep hb13 O12.lt
          have hx13 : x < w13.heap.size := O13.lt
          have hP13 : P < w13.heap.size := T13.was.lt
          clear T12 O12 hb13
          rcases HC.out with hnm | ⟨hfe, hnn⟩
          · have hnm' := Lib.hid hnm
            clear hnm HC
            obtain rfl := hnm'.out
            clear hnm'
            by_cases hf0 : fe = 0
            · subst hf0
              have X13 := Blk.new w13 30 #[.int .i64 n.check, .int .i64 n.low]
              have hbB := (Below.refl w13.heap.size w13).alloc (Nat.le_refl _) (.cells #[.int .i64 n.check, .int .i64 n.low] 30)
              have TB := T13.more hbB
              have OB := O13.keep hbB O13.lt
              have WB := TB.was
              have TC := Lib.hid TB.set
              have k3 : (w13.alloc (.cells #[.int .i64 n.check, .int .i64 n.low] 30)).cell? ⟨x, 3, none⟩ = some (.int .i64 n.check) := OB.cell 3
              have k4 : (w13.alloc (.cells #[.int .i64 n.check, .int .i64 n.low] 30)).cell? ⟨x, 4, none⟩ = some (.int .i64 n.low) := OB.cell 4
              clear T13 O13 hbB TB OB
              have wb0 := WB.cell 0
              have wb1 := WB.cell 1
              simp at wb0 wb1
              go_upto_region 21 with fail
              go_upto_region 22 with (refine wpList_store_row rfl 30 _ _ rfl P _ rfl rfl 30 _ WB (by kernel_rfl) (by simp) (by simp [Value.oneCell']) ?_)
              clear wb0 wb1
              clear X13 WB k3 k4
              generalize (w13.alloc (.cells #[.int .i64 n.check, .int .i64 n.low] 30)).setRow P #[.int .i64 n.check, .int .i64 n.low] = w20 at *
              go_wp2
              go_roundw
              case rel => exact ⟨k + 1, by go_num, by omega, F11, D12, n, TC.out⟩
              case measure => simp [intOf]; omega
            · have hfb : ((fe : Int) == 0) = false := by simpa using hf0
              clear hf0
              have X13 := Blk.new w13 30 #[.int .i64 n.check, .int .i64 n.low]
              have hbB := (Below.refl w13.heap.size w13).alloc (Nat.le_refl _) (.cells #[.int .i64 n.check, .int .i64 n.low] 30)
              have TB := T13.more hbB
              have OB := O13.keep hbB O13.lt
              have WB := TB.was
              have TC := Lib.hid TB.set
              have k3 : (w13.alloc (.cells #[.int .i64 n.check, .int .i64 n.low] 30)).cell? ⟨x, 3, none⟩ = some (.int .i64 n.check) := OB.cell 3
              have k4 : (w13.alloc (.cells #[.int .i64 n.check, .int .i64 n.low] 30)).cell? ⟨x, 4, none⟩ = some (.int .i64 n.low) := OB.cell 4
              clear T13 O13 hbB TB OB
              have wb0 := WB.cell 0
              have wb1 := WB.cell 1
              simp at wb0 wb1
              go_upto_region 21 with fail
              go_upto_region 22 with (refine wpList_store_row rfl 30 _ _ rfl P _ rfl rfl 30 _ WB (by kernel_rfl) (by simp) (by simp [Value.oneCell']) ?_)
              clear wb0 wb1
              clear X13 WB k3 k4
              generalize (w13.alloc (.cells #[.int .i64 n.check, .int .i64 n.low] 30)).setRow P #[.int .i64 n.check, .int .i64 n.low] = w20 at *
              go_wp2
              go_roundw
              case rel => exact ⟨k + 1, by go_num, by omega, F11, D12, n, TC.out⟩
              case measure => simp [intOf]; omega
          · have hfb : ((fe : Int) == 0) = false := by simpa using hfe
            have hnn' := Lib.hid hnn
            clear hnn hfe HC
            obtain rfl := hnn'.out
            clear hnn'
            by_cases hnm : m = n
            · subst hnm
              have X13 := Blk.new w13 30 #[.int .i64 m.check, .int .i64 m.low]
              have hbB := (Below.refl w13.heap.size w13).alloc (Nat.le_refl _) (.cells #[.int .i64 m.check, .int .i64 m.low] 30)
              have TB := T13.more hbB
              have OB := O13.keep hbB O13.lt
              have WB := TB.was
              have TC := Lib.hid TB.set
              have k3 : (w13.alloc (.cells #[.int .i64 m.check, .int .i64 m.low] 30)).cell? ⟨x, 3, none⟩ = some (.int .i64 m.check) := OB.cell 3
              have k4 : (w13.alloc (.cells #[.int .i64 m.check, .int .i64 m.low] 30)).cell? ⟨x, 4, none⟩ = some (.int .i64 m.low) := OB.cell 4
              clear T13 O13 hbB TB OB
              have wb0 := WB.cell 0
              have wb1 := WB.cell 1
              simp at wb0 wb1
              go_upto_region 21 with fail
              go_upto_region 22 with (refine wpList_store_row rfl 30 _ _ rfl P _ rfl rfl 30 _ WB (by kernel_rfl) (by simp) (by simp [Value.oneCell']) ?_)
              clear wb0 wb1
              clear X13 WB k3 k4
              generalize (w13.alloc (.cells #[.int .i64 m.check, .int .i64 m.low] 30)).setRow P #[.int .i64 m.check, .int .i64 m.low] = w20 at *
              go_wp2
              go_roundw
              case rel => exact ⟨k + 1, by go_num, by omega, F11, D12, m, TC.out⟩
              case measure => simp [intOf]; omega
            · have hN : m.check = n.check → ¬ n.low = m.low := fun h1 h2 => hnm (by obtain ⟨mc, ml⟩ := m; obtain ⟨nc, nl⟩ := n; simp only at h1 h2; rw [h1, h2])
              clear hnm
              by_cases hn1 : m.check = n.check
              · have hn2 := hN hn1
                clear hN
                have X13 := Blk.new w13 30 #[.int .i64 n.check, .int .i64 n.low]
                have hbB := (Below.refl w13.heap.size w13).alloc (Nat.le_refl _) (.cells #[.int .i64 n.check, .int .i64 n.low] 30)
                have TB := T13.more hbB
                have OB := O13.keep hbB O13.lt
                have WB := TB.was
                have TC := Lib.hid TB.set
                have k3 : (w13.alloc (.cells #[.int .i64 n.check, .int .i64 n.low] 30)).cell? ⟨x, 3, none⟩ = some (.int .i64 m.check) := OB.cell 3
                have k4 : (w13.alloc (.cells #[.int .i64 n.check, .int .i64 n.low] 30)).cell? ⟨x, 4, none⟩ = some (.int .i64 m.low) := OB.cell 4
                clear T13 O13 hbB TB OB
                have wb0 := WB.cell 0
                have wb1 := WB.cell 1
                simp at wb0 wb1
                go_upto_region 21 with fail
                go_upto_region 22 with (refine wpList_store_row rfl 30 _ _ rfl P _ rfl rfl 30 _ WB (by kernel_rfl) (by simp) (by simp [Value.oneCell']) ?_)
                clear wb0 wb1
                clear X13 WB k3 k4
                generalize (w13.alloc (.cells #[.int .i64 n.check, .int .i64 n.low] 30)).setRow P #[.int .i64 n.check, .int .i64 n.low] = w20 at *
                go_wp2
                go_roundw
                case rel => exact ⟨k + 1, by go_num, by omega, F11, D12, n, TC.out⟩
                case measure => simp [intOf]; omega
              · have hn3 : ¬ n.check = m.check := fun h => hn1 h.symm
                clear hN hn1
                have X13 := Blk.new w13 30 #[.int .i64 n.check, .int .i64 n.low]
                have hbB := (Below.refl w13.heap.size w13).alloc (Nat.le_refl _) (.cells #[.int .i64 n.check, .int .i64 n.low] 30)
                have TB := T13.more hbB
                have OB := O13.keep hbB O13.lt
                have WB := TB.was
                have TC := Lib.hid TB.set
                have k3 : (w13.alloc (.cells #[.int .i64 n.check, .int .i64 n.low] 30)).cell? ⟨x, 3, none⟩ = some (.int .i64 m.check) := OB.cell 3
                have k4 : (w13.alloc (.cells #[.int .i64 n.check, .int .i64 n.low] 30)).cell? ⟨x, 4, none⟩ = some (.int .i64 m.low) := OB.cell 4
                clear T13 O13 hbB TB OB
                have wb0 := WB.cell 0
                have wb1 := WB.cell 1
                simp at wb0 wb1
                go_upto_region 21 with fail
                go_upto_region 22 with (refine wpList_store_row rfl 30 _ _ rfl P _ rfl rfl 30 _ WB (by kernel_rfl) (by simp) (by simp [Value.oneCell']) ?_)
                clear wb0 wb1
                clear X13 WB k3 k4
                generalize (w13.alloc (.cells #[.int .i64 n.check, .int .i64 n.low] 30)).setRow P #[.int .i64 n.check, .int .i64 n.low] = w20 at *
                go_wp2
                go_roundw
                case rel => exact ⟨k + 1, by go_num, by omega, F11, D12, n, TC.out⟩
                case measure => simp [intOf]; omega
      · have HB := Lib.hid T.live.below
        clear T
        go_wp2
        go_ret
        exact ⟨rfl, HB.out⟩
end Go.Proofs.Ytbjpnkjddfpmpaa
