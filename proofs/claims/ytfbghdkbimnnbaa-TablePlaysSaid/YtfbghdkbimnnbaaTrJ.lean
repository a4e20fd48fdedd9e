/- Both tables beside an operation; the statement TablePlays, walked. -/
import Derived.Test.YtfbghdkbimnnbaaTbK
import Derived.Test.YtfbghdkbimnnbaaTrI
import Derived.Deep.DeepCutAuto
import Derived.Deep.CutBlock
import Derived.Deep.RegionHeld3
namespace Go.Proofs.Ytfbghdkbimnnbaa
open Go.RowKit

/-- A table made since w0, the document's table beside it, and an operation in a block of its own. -/
structure BoxD (w0 w : World) (F : Foot) (q : Nat) (l1 : Tb) (G : Foot) (g : Nat) (l2 : Tb) (x : Nat) (o : Op10) : Prop where
  live : LiveT w0 w F q l1
  dt : IsDt w G g l2
  far : ∀ b, F b → ¬ G b
  newG : ∀ b, G b → w0.heap.size ≤ b
  box : Blk w x 31 (op10Cells o)
  xF : ¬ F x
  xG : ¬ G x
namespace BoxD
variable {w0 w w' : World} {F G : Foot} {q g : Nat} {l1 l2 l' : Tb} {x : Nat} {o : Op10}
theorem more (h : BoxD w0 w F q l1 G g l2 x o) (hb : Below w.heap.size w w') : BoxD w0 w' F q l1 G g l2 x o :=
  ⟨h.live.more hb, h.dt.below hb, h.far, h.newG, h.box.keep hb h.box.lt, h.xF, h.xG⟩
theorem call1 {f : Nat} {args : Array Value} {v : Value} (h : BoxD w0 w F q l1 G g l2 x o) (hc : Calls Try.prog f args w (LiveT.Out w0 w F q l' v)) : Calls Try.prog f args w fun e w' => ∃ F', e = .returned v ∧ BoxD w0 w' F' q l' G g l2 x o := by
  refine hc.mono ?_
  rintro e w1 ⟨F1, rfl, hl, hs⟩
  obtain ⟨d1, d2⟩ := h.dt.apart hs fun b hG hF => h.far b hF hG
  exact ⟨F1, rfl, hl, d1, fun b hF hG => d2 b hG hF, h.newG, (hs.block x h.box.lt h.xF).trans h.box, fun hF => (hs.foot x hF).elim h.xF (fun k => by have := h.box.lt; omega), h.xG⟩
theorem call2 {f : Nat} {args : Array Value} {v : Value} (h : BoxD w0 w F q l1 G g l2 x o) (hc : Calls Try.prog f args w (OutD w G g l' v)) : Calls Try.prog f args w fun e w' => ∃ G', e = .returned v ∧ BoxD w0 w' F q l1 G' g l' x o := by
  refine hc.mono ?_
  rintro e w1 ⟨G1, rfl, hd, hs⟩
  obtain ⟨t1, t2⟩ := h.live.tab.apart hs h.far
  exact ⟨G1, rfl, ⟨t1, h.live.newF, hs.belowB h.newG h.live.below h.live.below.size⟩, hd, t2, fun b hb => (hs.foot b hb).elim (h.newG b) fun k => Nat.le_trans h.live.below.size k,
    (hs.block x h.box.lt h.xG).trans h.box, h.xF, fun hG => (hs.foot x hG).elim h.xG (fun k => by have := h.box.lt; omega)⟩
theorem cells (h : BoxD w0 w F q l1 G g l2 x o) : w.cell? ⟨x, 0, none⟩ = some (.int .i64 o.kind) ∧ w.cell? ⟨x, 1, none⟩ = some (.int .i64 o.txn) ∧ w.cell? ⟨x, 2, none⟩ = some (.int .i64 o.n) := ⟨h.box.cell 0, h.box.cell 1, h.box.cell 2⟩
end BoxD
set_option maxRecDepth 100000 in
set_option maxHeartbeats 16000000 in
theorem walkTablePlays (v : Value) (ops : List Op10) (w : World) (hr : IsOps10 w v ops) :
    Calls Try.prog 3 #[v] w fun e w' => e = .returned (.bool true) ∧ Below w.heap.size w w' := by
  have HV := Lib.hid hr
  obtain ⟨a, cap, rfl, h1, h2, _⟩ := hr
  have hlm : (ops.length : Int) ≤ 9223372036854775807 := by unfold maxLen at h2; omega
  clear h1 h2
  go_enter Try.func3, Try.ntmps3
  go_wp2_with fail
  refine (awake10 _).mono ?_
  rintro e w1 ⟨rfl, hb⟩
  have HB := Lib.hid hb
  clear hb
  by_cases h3 : (300 : Int) < ops.length
  · go_wp2_with fail
    refine (awake10 _).mono ?_
    rintro e w2 ⟨rfl, hb⟩
    have HB2 := Lib.hid (below2 HB.out hb)
    clear hb
    go_wp2
    go_ret
    exact ⟨rfl, HB2.out⟩
  go_wp2_with fail
  refine (LiveT.make HB.out).mono ?_
  rintro e w2 ⟨F0, q, rfl, L0⟩
  have hg := Blk.new w2 29 #[.slice none 0 0]
  have hbg := (Below.refl w2.heap.size w2).alloc (Nat.le_refl _) (.cells #[.slice none 0 0] 29)
  have HL0 := Lib.hid (L0.more hbg)
  have HD0 : Hid (IsDt (w2.alloc (.cells #[.slice none 0 0] 29)) (fun b => b = w2.heap.size) w2.heap.size []) :=
    ⟨Tb.Ok.none, .slice none 0 0, fun _ => undef, hg, ⟨rfl, .inl ⟨rfl, rfl⟩⟩, nofun, nofun, rfl, fun b hb => by simp [Value.ownBlock] at hb, nofun, fun b hb => by subst hb; simp⟩
  have HF0 : Hid (∀ b, F0 b → ¬ b = w2.heap.size) := fun b hb e => by have := L0.tab.lt b hb; omega
  have HN0 : Hid (w.heap.size ≤ w2.heap.size) := L0.below.size
  clear hg hbg L0
  go_wp2
  go_loopw [36] (fun i wr => ∃ (k : Nat) (F : Foot) (G : Foot) (l : Tb), k ≤ ops.length ∧ i = .int .i64 k ∧ LiveT w wr F q l ∧ IsDt wr G w2.heap.size l ∧ (∀ b, F b → ¬ G b) ∧ ∀ b, G b → w.heap.size ≤ b) (fun i _ => (ops.length - intOf i).toNat)
  case atStart => exact ⟨0, F0, _, [], Nat.zero_le _, rfl, HL0.out, HD0.out, HF0.out, fun b hb => by subst hb; exact HN0.out⟩
  case round =>
    obtain ⟨k, F, G, l, hk, rfl, hL, hD, hFG, hGN⟩ := hrel
    by_cases hlt : k < ops.length
    · have HLT := Lib.hid hlt
      obtain ⟨b, off, cap', hva, _, _, hbw, hel⟩ := HV.out.at_ (by omega)
      cases hva
      obtain ⟨hwf, hc⟩ := hel k hlt
      obtain ⟨c0, c1, c2⟩ := hc.keep hL.below
      generalize ops[k] = o at *
      clear hel hc hwf HL0 HD0 HF0 HN0
      have x := Blk.new wr 31 (op10Cells o)
      have hbx := (Below.refl wr.heap.size wr).alloc (Nat.le_refl _) (.cells (op10Cells o) 31)
      have bk : BoxD w (wr.alloc (.cells (op10Cells o) 31)) F q l G w2.heap.size l wr.heap.size o :=
        ⟨hL.more hbx, hD.below hbx, hFG, hGN, x, fun hF => by have := hL.tab.lt _ hF; omega, fun hG => by have := hD.lt _ hG; omega⟩
      have HBK := Lib.hid bk
      clear bk hL hD hFG hGN hbx x
      go_upto_region 7 with fail
      change Code.wp _ _ _ _ (wr.alloc (.cells (op10Cells o) 31))
      generalize wr.alloc (.cells (op10Cells o) 31) = w3 at *
      generalize wr.heap.size = x at *
      clear c0 c1 c2
      obtain ⟨e0, -, -⟩ := HBK.out.cells
      go_upto_block 2 with fail
      clear e0
      go_cut [36] from 36 to 201 (fun s36 wx => s36 = .int .i64 k ∧ ∃ (F : Foot) (G : Foot) (l : Tb), BoxD w wx F q l G w2.heap.size l x o)
      case first =>
        by_cases k1 : o.kind = 1
        · have k1' : (o.kind == 1) = true := by simpa using k1
          clear k1
          go_upto_region 9 with fail
          have td := HBK.out.more (Below.refl _ _).drew
          obtain ⟨-, b1, -⟩ := td.cells
          go_region_held3 (fun W => W.cell? ⟨x, 1, none⟩ = some (.int .i64 o.txn)) (assumption) (first
            | (go_at_call 10; refine (td.call1 (td.live.begin o.txn)).mono ?_; rintro e w8 ⟨F8, rfl, T8⟩; obtain ⟨-, c1, -⟩ := T8.cells)
            | (go_at_call 11; refine (T8.call2 (dtBegin_any T8.dt o.txn)).mono ?_; rintro e w9 ⟨G9, rfl, T9⟩; obtain ⟨-, d1, -⟩ := T9.cells))
          have HT9 := Lib.hid T9
          clear T8 T9 td b1 c1 d1
          go_wp2_with fail
          go_meet
          exact ⟨rfl, _, _, _, HT9.out⟩
        have k1' : (o.kind == 1) = false := by simpa using k1
        clear k1
        by_cases k2 : o.kind = 2
        · have k2' : (o.kind == 2) = true := by simpa using k2
          clear k2
          go_upto_region 12 with fail
          have td := HBK.out.more (Below.refl _ _).drew
          obtain ⟨-, b1, b2⟩ := td.cells
          go_region_held3 (fun W => W.cell? ⟨x, 1, none⟩ = some (.int .i64 o.txn) ∧ W.cell? ⟨x, 2, none⟩ = some (.int .i64 o.n)) (first | exact ⟨b1, b2⟩ | exact ⟨c1, c2⟩ | exact ⟨d1, d2⟩) (first
            | (go_at_call 12; refine (td.call1 (td.live.log o.txn o.n)).mono ?_; rintro e w8 ⟨F8, rfl, T8⟩; obtain ⟨-, c1, c2⟩ := T8.cells)
            | (go_at_call 13; refine (T8.call2 (dtLog_any T8.dt o.txn o.n)).mono ?_; rintro e w9 ⟨G9, rfl, T9⟩; obtain ⟨-, d1, d2⟩ := T9.cells))
          have HT9 := Lib.hid T9
          clear T8 T9 td b1 b2 c1 c2 d1 d2
          go_wp2_with fail
          go_meet
          exact ⟨rfl, _, _, _, HT9.out⟩
        have k2' : (o.kind == 2) = false := by simpa using k2
        clear k2
        by_cases k3 : o.kind = 3
        · have k3' : (o.kind == 3) = true := by simpa using k3
          clear k3
          go_upto_region 15 with fail
          have td := HBK.out.more (Below.refl _ _).drew
          obtain ⟨-, b1, b2⟩ := td.cells
          go_region_held3 (fun W => W.cell? ⟨x, 1, none⟩ = some (.int .i64 o.txn) ∧ W.cell? ⟨x, 2, none⟩ = some (.int .i64 o.n)) (first | exact ⟨b1, b2⟩ | exact ⟨c1, c2⟩ | exact ⟨d1, d2⟩) (first
            | (go_at_call 14; refine (td.call1 (td.live.left o.txn o.n)).mono ?_; rintro e w8 ⟨F8, rfl, T8⟩; obtain ⟨-, c1, c2⟩ := T8.cells)
            | (go_at_call 15; refine (T8.call2 (dtAdd_any T8.dt o.txn o.n)).mono ?_; rintro e w9 ⟨G9, rfl, T9⟩; obtain ⟨-, d1, d2⟩ := T9.cells))
          have HT9 := Lib.hid T9
          clear T8 T9 td b1 b2 c1 c2 d1 d2
          go_wp2_with fail
          go_meet
          exact ⟨rfl, _, _, _, HT9.out⟩
        have k3' : (o.kind == 3) = false := by simpa using k3
        clear k3
        by_cases k4 : o.kind = 4
        · have k4' : (o.kind == 4) = true := by simpa using k4
          clear k4
          obtain ⟨-, b1, b2⟩ := HBK.out.cells
          go_wp2_with fail
          refine (HBK.out.call1 (HBK.out.live.mark o.txn o.n)).mono ?_
          rintro e w8 ⟨F8, rfl, T8⟩
          obtain ⟨-, c1, c2⟩ := T8.cells
          have HT8 := Lib.hid T8
          clear T8 b1 b2 HBK
          go_wp2_with fail
          refine (HT8.out.call2 (dtMark_any HT8.out.dt o.txn o.n)).mono ?_
          rintro e w9 ⟨G9, rfl, T9⟩
          have HT9 := Lib.hid T9
          clear T9 HT8 c1 c2
          go_wp2_with fail
          go_meet
          exact ⟨rfl, _, _, _, HT9.out⟩
        have k4' : (o.kind == 4) = false := by simpa using k4
        clear k4
        by_cases k5 : o.kind = 5
        · have k5' : (o.kind == 5) = true := by simpa using k5
          clear k5
          obtain ⟨-, b1, b2⟩ := HBK.out.cells
          go_wp2_with fail
          refine (HBK.out.call1 (HBK.out.live.back o.txn o.n)).mono ?_
          rintro e w8 ⟨F8, rfl, T8⟩
          obtain ⟨-, c1, c2⟩ := T8.cells
          have HT8 := Lib.hid T8
          clear T8 b1 b2 HBK
          go_wp2_with fail
          refine (HT8.out.call2 (dtBack_any HT8.out.dt o.txn o.n)).mono ?_
          rintro e w9 ⟨G9, rfl, T9⟩
          have HT9 := Lib.hid T9
          clear T9 HT8 c1 c2
          go_wp2_with fail
          go_meet
          exact ⟨rfl, _, _, _, HT9.out⟩
        have k5' : (o.kind == 5) = false := by simpa using k5
        clear k5
        by_cases k6 : o.kind = 6
        · have k6' : (o.kind == 6) = true := by simpa using k6
          clear k6
          go_upto_region 28 with fail
          have td := HBK.out.more (Below.refl _ _).drew
          obtain ⟨-, b1, -⟩ := td.cells
          go_region_held3 (fun W => W.cell? ⟨x, 1, none⟩ = some (.int .i64 o.txn)) (assumption) (first
            | (go_at_call 20; refine (td.call1 (td.live.end_ o.txn)).mono ?_; rintro e w8 ⟨F8, rfl, T8⟩; obtain ⟨-, c1, -⟩ := T8.cells)
            | (go_at_call 21; refine (T8.call2 (dtEnd_any T8.dt o.txn)).mono ?_; rintro e w9 ⟨G9, rfl, T9⟩; obtain ⟨-, d1, -⟩ := T9.cells))
          have HT9 := Lib.hid T9
          clear T8 T9 td b1 c1 d1
          go_wp2_with fail
          go_meet
          exact ⟨rfl, _, _, _, HT9.out⟩
        have k6' : (o.kind == 6) = false := by simpa using k6
        clear k6
        go_wp2_with fail
        go_meet
        exact ⟨rfl, _, _, _, HBK.out⟩
      obtain ⟨rfl, F1, G1, l1, hbk⟩ := hcut
      have HB2 := Lib.hid hbk
      clear hbk HBK
      have kr1 := HB2.out.live.row o.txn
      have kr2 : ∀ W, Below wc.heap.size wc W → _ := fun W hW => dtRow_any (HB2.out.dt.below hW) o.txn
      generalize l1.rowT o.txn = R at kr1 kr2
      obtain ⟨⟨p1, p2, p3⟩, lf, cd⟩ := R
      simp only [rwCells] at kr1 kr2
      have KR1 := Lib.hid kr1
      have KR2 := Lib.hid kr2
      clear kr1 kr2
      obtain ⟨-, b1, -⟩ := HB2.out.cells
      go_wp2_with fail
      refine KR1.out.mono ?_
      rintro e w4 ⟨rfl, -, hb4⟩
      have X4 := Blk.new w4 46 #[.int .i64 p1, .int .i64 p2, .int .i64 p3]
      have HB5 := Lib.hid (below2 hb4 ((Below.refl w4.heap.size w4).alloc (Nat.le_refl _) (.cells #[.int .i64 p1, .int .i64 p2, .int .i64 p3] 46)))
      clear hb4 b1 KR1
      go_upto_region 31 with fail
      change Code.wp _ _ _ _ (w4.alloc (.cells #[.int .i64 p1, .int .i64 p2, .int .i64 p3] 46))
      generalize w4.alloc (.cells #[.int .i64 p1, .int .i64 p2, .int .i64 p3] 46) = w5 at *
      generalize w4.heap.size = x4 at *
      obtain ⟨-, b1, -⟩ := (HB2.out.more HB5.out).cells
      have HX4 := Lib.hid X4
      clear X4
      go_wp2_with fail
      refine (KR2.out w5 HB5.out).mono ?_
      rintro e w6 ⟨rfl, hb6⟩
      have X6 := Blk.new w6 46 #[.int .i64 p1, .int .i64 p2, .int .i64 p3]
      have hb7 := below2 hb6 ((Below.refl w6.heap.size w6).alloc (Nat.le_refl _) (.cells #[.int .i64 p1, .int .i64 p2, .int .i64 p3] 46))
      have HB7 := Lib.hid (below2 HB5.out hb7)
      have HX7 := Lib.hid (HX4.out.keep hb7 HX4.out.lt)
      clear hb6 hb7 b1 KR2 HX4 HB5
      go_upto_region 32 with fail
      change Code.wp _ _ _ _ (w6.alloc (.cells #[.int .i64 p1, .int .i64 p2, .int .i64 p3] 46))
      generalize w6.alloc (.cells #[.int .i64 p1, .int .i64 p2, .int .i64 p3] 46) = w7 at *
      generalize w6.heap.size = x6 at *
      have a0 := HX7.out.cell 0
      have a1 := HX7.out.cell 1
      have a2 := HX7.out.cell 2
      have y0 := X6.cell 0
      have y1 := X6.cell 1
      have y2 := X6.cell 2
      simp at a0 a1 a2 y0 y1 y2
      have hne := fun w => row_ne p1 p2 p3 p1 p2 p3 w
      simp only [BEq.rfl, Bool.and_self, Bool.not_true] at hne
      have BD7 := HB2.out.more HB7.out
      have HBD7 := Lib.hid BD7
      have HL4 := Lib.hid (rows_len BD7.live.tab.1)
      clear BD7 HX7 X6 HB2 HB7
      go_wp2_with fail
      refine HBD7.out.live.rows.mono ?_
      rintro e w8 ⟨ra, rc, rfl, R8, -, hb8⟩
      have HBD8 := Lib.hid (HBD7.out.more hb8)
      have HR8 := Lib.hid R8
      clear R8 hb8 HBD7 a0 a1 a2 y0 y1 y2 hne
      go_wp2_with fail
      refine (dtRows_any HBD8.out.dt).mono ?_
      rintro e w9 ⟨sa, sc, rfl, R9, hb9⟩
      have HBD9 := Lib.hid (HBD8.out.more hb9)
      have HR9 := Lib.hid R9
      have HR8' := Lib.hid (HR8.out.below hb9)
      clear R9 hb9 HBD8 HR8
      go_wp2_with fail
      refine (refSame10_any ra sa rc sc l1.rows HR8'.out HR9.out (by have := HL4.out; omega)).mono ?_
      rintro e w10 ⟨rfl, hb10⟩
      have HBD10 := Lib.hid (HBD9.out.more hb10)
      clear hb10 HBD9 HR9 HR8' HL4
      go_wp2_with fail
      have kn1 := HBD10.out.live.need
      have kn2 : ∀ W, Below w10.heap.size w10 W → _ := fun W hW => dtNeed_any (HBD10.out.dt.below hW)
      generalize l1.need = nd at kn1 kn2
      refine kn1.mono ?_
      rintro e w11 ⟨rfl, -, hb11⟩
      have HBD11 := Lib.hid (HBD10.out.more hb11)
      have KN2 := Lib.hid (kn2 w11 hb11)
      clear kn1 kn2 hb11 HBD10
      go_wp2_with fail
      refine KN2.out.mono ?_
      rintro e w12 ⟨rfl, hb12⟩
      have HBD12 := Lib.hid (HBD11.out.more hb12)
      clear hb12 HBD11 KN2
      have hnd : (nd != nd) = false := by simp
      go_wp2
      exact ⟨⟨k + 1, F1, G1, l1, HLT.out, by go_num, HBD12.out.live, HBD12.out.dt, HBD12.out.far, HBD12.out.newG⟩, by simp [intOf]; have := HLT.out; omega⟩
    · obtain rfl : k = ops.length := by omega
      have HL := Lib.hid hL.below
      clear hL hD
      go_wp2
      go_ret
      exact ⟨rfl, HL.out⟩
end Go.Proofs.Ytfbghdkbimnnbaa
