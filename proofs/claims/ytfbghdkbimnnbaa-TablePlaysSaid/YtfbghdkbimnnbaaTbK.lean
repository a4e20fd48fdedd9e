/- A table beside an operation; the statement TableNeed, walked. -/
import Derived.Test.YtfbghdkbimnnbaaOps10
import Derived.Deep.CutBlock
namespace Go.Proofs.Ytfbghdkbimnnbaa
open Go.RowKit

/-- A table made since w0, beside an operation in a block of its own. -/
structure BoxT (w0 w : World) (F : Foot) (q : Nat) (l : Tb) (x : Nat) (o : Op10) : Prop where
  live : LiveT w0 w F q l
  box : Blk w x 31 (op10Cells o)
  far : ¬ F x
namespace BoxT
variable {w0 w w' : World} {F : Foot} {q : Nat} {l l' : Tb} {x : Nat} {o : Op10}
theorem make (h : LiveT w0 w F q l) (o : Op10) : BoxT w0 (w.alloc (.cells (op10Cells o) 31)) F q l w.heap.size o :=
  ⟨h.more ((Below.refl _ _).alloc (Nat.le_refl _) _), Blk.new _ _ _, fun hF => by have := h.tab.lt _ hF; omega⟩
theorem more (h : BoxT w0 w F q l x o) (hb : Below w.heap.size w w') : BoxT w0 w' F q l x o := ⟨h.live.more hb, h.box.keep hb h.box.lt, h.far⟩
theorem call {f : Nat} {args : Array Value} {v : Value} (h : BoxT w0 w F q l x o) (hc : Calls Try.prog f args w (LiveT.Out w0 w F q l' v)) : Calls Try.prog f args w fun e w' => ∃ F', e = .returned v ∧ BoxT w0 w' F' q l' x o := by
  refine hc.mono ?_
  rintro e w1 ⟨F1, rfl, hl, hs⟩
  exact ⟨F1, rfl, hl, (hs.block x h.box.lt h.far).trans h.box, fun g => (hs.foot x g).elim h.far fun k => by have := h.box.lt; omega⟩
theorem cells (h : BoxT w0 w F q l x o) : w.cell? ⟨x, 0, none⟩ = some (.int .i64 o.kind) ∧ w.cell? ⟨x, 1, none⟩ = some (.int .i64 o.txn) ∧ w.cell? ⟨x, 2, none⟩ = some (.int .i64 o.n) := ⟨h.box.cell 0, h.box.cell 1, h.box.cell 2⟩
end BoxT
namespace Tb
theorem mem_begin {l : Tb} {t : Int} {x : Tx} (h : x ∈ (l.beginT t).1) : x ∈ l ∨ x.txn = t := by
  unfold beginT at h
  by_cases h1 : t < 1 ∨ 2147483647 < t
  · rw [if_pos h1] at h; exact .inl h
  · rw [if_neg h1] at h
    cases ha : l.at_ t with
    | some y => rw [ha] at h; simp at h; exact .inl h
    | none =>
      rw [ha] at h
      by_cases h4 : 4 ≤ l.length
      · simp [h4] at h; exact .inl h
      · simp [h4] at h
        rcases mem_ins.1 h with rfl | h
        · exact .inr rfl
        · exact .inl h
theorem mem_left {l : Tb} {t d : Int} {x : Tx} (h : x ∈ (l.leftT t d).1) : ∃ y ∈ l, y.txn = x.txn := by
  unfold leftT at h
  cases ha : l.at_ t with
  | none => rw [ha] at h; exact ⟨x, h, rfl⟩
  | some y =>
    rw [ha] at h
    simp only at h
    by_cases h1 : d < -1048576 ∨ 1048576 < d ∨ y.left + d < 0 ∨ 1048576 < y.left + d
    · rw [if_pos h1] at h; exact ⟨x, h, rfl⟩
    · rw [if_neg h1] at h
      rcases mem_set h with rfl | ⟨h, _⟩
      · exact ⟨y, (at_some ha).1, rfl⟩
      · exact ⟨x, h, rfl⟩
theorem mem_end {l : Tb} {t : Int} {x : Tx} (h : x ∈ (l.endT t).1) : x ∈ l := by
  unfold endT at h
  cases ha : l.at_ t with
  | none => rw [ha] at h; exact h
  | some y => rw [ha] at h; exact (List.mem_filter.1 h).1
theorem needTo_le {l : Tb} (h : ∀ x ∈ l, 0 ≤ x.left ∧ x.left ≤ 1048576) : ∀ n : Nat, 0 ≤ l.needTo n ∧ l.needTo n ≤ 1048577 * n
  | 0 => ⟨Int.le_refl _, Int.le_refl _⟩
  | n + 1 => by
    have ih := needTo_le h n
    show 0 ≤ l.needTo n + _ ∧ l.needTo n + _ ≤ _
    cases ha : l.at_ n with
    | none => simp only; omega
    | some x =>
      have := h x (at_some ha).1
      simp only
      omega
end Tb
set_option maxRecDepth 100000 in
set_option maxHeartbeats 16000000 in
theorem walkTableNeed (v : Value) (ops : List Op10) (w : World) (hr : IsOps10 w v ops) :
    Calls Try.prog 6 #[v] w fun e w' => e = .returned (.bool true) ∧ Below w.heap.size w w' := by
  have HV := Lib.hid hr
  obtain ⟨a, cap, rfl, h1, h2, _⟩ := hr
  have hlm : (ops.length : Int) ≤ 9223372036854775807 := by unfold maxLen at h2; omega
  clear h1 h2
  go_enter Try.func6, Try.ntmps6
  go_wp2_with fail
  refine (awake10 _).mono ?_
  rintro e w1 ⟨rfl, hb⟩
  have HB := Lib.hid hb
  clear hb
  by_cases h3 : (300 : Int) < ops.length
  · go_wp2_with fail
    refine (awake10 _).mono ?_
    rintro e w2 ⟨rfl, hb⟩
    have HB2 := Lib.hid (below2 HB.out hb)
    clear hb
    go_wp2
    go_ret
    exact ⟨rfl, HB2.out⟩
  go_wp2_with fail
  refine (LiveT.make HB.out).mono ?_
  rintro e w2 ⟨F0, q, rfl, L0⟩
  go_wp2
  go_loopw [22] (fun i wr => ∃ (k : Nat) (F : Foot) (l : Tb), k ≤ ops.length ∧ i = .int .i64 k ∧ LiveT w wr F q l ∧ ∀ x ∈ l, x.txn ≤ 9) (fun i _ => (ops.length - intOf i).toNat)
  case atStart => exact ⟨0, F0, [], Nat.zero_le _, rfl, L0, nofun⟩
  case round =>
    obtain ⟨k, F, l, hk, rfl, hL, hN⟩ := hrel
    by_cases hlt : k < ops.length
    · have HL := Lib.hid hL
      have HN := Lib.hid hN
      have HLT := Lib.hid hlt
      obtain ⟨b, off, cap', hva, _, _, hbw, hel⟩ := HV.out.at_ (by omega)
      cases hva
      obtain ⟨hwf, hc⟩ := hel k hlt
      obtain ⟨c0, c1, c2⟩ := hc.keep hL.below
      generalize ops[k] = o at *
      have HBX := Lib.hid (BoxT.make HL.out o)
      clear hel hc L0 hL hN hwf HL
      go_upto_region 7 with fail
      change Code.wp _ _ _ _ (wr.alloc (.cells (op10Cells o) 31))
      generalize wr.alloc (.cells (op10Cells o) 31) = w3 at *
      generalize wr.heap.size = x at *
      clear c0 c1 c2
      obtain ⟨e0, e1, e2⟩ := HBX.out.cells
      go_upto_block 2 with fail
      go_cut [22] from 22 to 77 (fun s22 wx => s22 = .int .i64 k ∧ ∃ (F : Foot) (l : Tb), BoxT w wx F q l x o ∧ ∀ y ∈ l, y.txn ≤ 9 ∨ y.txn = o.txn)
      case first =>
        by_cases k1 : o.kind = 1
        · have k1' : (o.kind == 1) = true := by simpa using k1
          clear k1
          go_wp2_with fail
          refine (HBX.out.call (HBX.out.live.begin o.txn)).mono ?_
          rintro e w4 ⟨F4, rfl, T4⟩
          have HT4 := Lib.hid T4
          have HM : Hid (∀ y ∈ (l.beginT o.txn).1, y.txn ≤ 9 ∨ y.txn = o.txn) := fun y hy => (Tb.mem_begin hy).imp (HN.out y) id
          clear T4 HBX e0 e1 e2
          go_wp2
          go_meet
          exact ⟨rfl, F4, _, HT4.out, HM.out⟩
        have k1' : (o.kind == 1) = false := by simpa using k1
        clear k1
        by_cases k2 : o.kind = 3
        · have k2' : (o.kind == 3) = true := by simpa using k2
          clear k2
          go_wp2_with fail
          refine (HBX.out.call (HBX.out.live.left o.txn o.n)).mono ?_
          rintro e w4 ⟨F4, rfl, T4⟩
          have HT4 := Lib.hid T4
          have HM : Hid (∀ y ∈ (l.leftT o.txn o.n).1, y.txn ≤ 9 ∨ y.txn = o.txn) := fun y hy => by
            obtain ⟨z, hz, e⟩ := Tb.mem_left hy
            exact .inl (e ▸ HN.out z hz)
          clear T4 HBX e0 e1 e2
          go_wp2
          go_meet
          exact ⟨rfl, F4, _, HT4.out, HM.out⟩
        have k2' : (o.kind == 3) = false := by simpa using k2
        clear k2
        by_cases k3 : o.kind = 6
        · have k3' : (o.kind == 6) = true := by simpa using k3
          clear k3
          go_wp2_with fail
          refine (HBX.out.call (HBX.out.live.end_ o.txn)).mono ?_
          rintro e w4 ⟨F4, rfl, T4⟩
          have HT4 := Lib.hid T4
          have HM : Hid (∀ y ∈ (l.endT o.txn).1, y.txn ≤ 9 ∨ y.txn = o.txn) := fun y hy => .inl (HN.out y (Tb.mem_end hy))
          clear T4 HBX e0 e1 e2
          go_wp2
          go_meet
          exact ⟨rfl, F4, _, HT4.out, HM.out⟩
        have k3' : (o.kind == 6) = false := by simpa using k3
        clear k3
        have HM : Hid (∀ y ∈ l, y.txn ≤ 9 ∨ y.txn = o.txn) := fun y hy => .inl (HN.out y hy)
        clear e1 e2
        go_wp2
        go_meet
        exact ⟨rfl, F, l, HBX.out, HM.out⟩
      obtain ⟨rfl, F1, l1, hT1, hM1⟩ := hcut
      have HT1 := Lib.hid hT1
      have HM1 := Lib.hid hM1
      clear hT1 hM1 HBX HN e0 e1 e2
      go_wp2
      go_loopw [6, 48] (fun n i wr => ∃ j : Nat, j ≤ 10 ∧ n = .int .i64 (l1.needTo j) ∧ i = .int .i64 j ∧ BoxT w wr F1 q l1 x o) (fun _ i _ => (10 - intOf i).toNat)
      case atStart => exact ⟨0, by omega, rfl, rfl, HT1.out⟩
      case round =>
        obtain ⟨j, hj, rfl, rfl, hTj⟩ := hrel
        by_cases hj10 : j < 10
        · have HTJ := Lib.hid hTj
          have HJ := Lib.hid hj10
          have hji : (j : Int) < 10 := by omega
          have hok := hTj.live.tab.1
          cases ha : l1.at_ j with
          | none =>
            have KR : Hid (Calls Try.prog 22 #[.pointer (some ⟨q, 0, none⟩), .int .i64 j] wr fun e w' => e = .returned (.tuple #[.agg #[.int .i64 0, .int .i64 0, .int .i64 0], .int .i64 0, .int .i64 7]) ∧ Below wr.heap.size wr w') := tbRow_none HTJ.out.live.tab j ha
            have HNX : Hid (l1.needTo (j + 1) = l1.needTo j) := by
              show l1.needTo j + _ = _
              rw [ha]; simp
            clear hTj
            go_wp2_with fail
            refine KR.out.mono ?_
            rintro e w5 ⟨rfl, hb⟩
            have X := Blk.new w5 46 #[.int .i64 0, .int .i64 0, .int .i64 0]
            have HX := Lib.hid X
            have HBA := Lib.hid (hb.alloc hb.size (.cells #[.int .i64 0, .int .i64 0, .int .i64 0] 46))
            have HZ := Lib.hid hb.size
            have HT6 := Lib.hid (HTJ.out.more ((Spare.setRow (S := (· = w5.heap.size)) rfl #[.int .i64 0, .int .i64 0, .int .i64 0]).below HBA.out (fun b e => by rw [e]; exact HZ.out) HBA.out.size))
            clear hb X KR
            go_wp2_with (refine wpList_store_row rfl 46 _ _ rfl w5.heap.size _ rfl rfl 46 _ HX.out (by kernel_rfl) (by simp) (by simp [Value.oneCell']) ?_)
            exact ⟨⟨j + 1, HJ.out, by rw [HNX.out], by go_num, HT6.out⟩, by simp [intOf]; have := HJ.out; omega⟩
          | some y =>
            have hlf := hok.left y (Tb.at_some ha).1
            have hnl := Tb.needTo_le hok.left j
            obtain ⟨t0, b1, b2, lf, mm⟩ := y
            simp only at hlf
            have KR : Hid (Calls Try.prog 22 #[.pointer (some ⟨q, 0, none⟩), .int .i64 j] wr fun e w' => e = .returned (.tuple #[.agg #[.int .i64 t0, .int .i64 b1, .int .i64 b2], .int .i64 lf, .int .i64 0]) ∧ Below wr.heap.size wr w') := tbRow_some HTJ.out.live.tab j ha
            have HNX : Hid (l1.needTo (j + 1) = l1.needTo j + (1 + lf)) := by
              show l1.needTo j + _ = _
              rw [ha]
            have hw1 : IntKind.i64.wrap (1 + lf) = 1 + lf := IntWalk.i64_in _ (by omega)
            have hw2 : IntKind.i64.wrap (l1.needTo j + (1 + lf)) = l1.needTo j + (1 + lf) := IntWalk.i64_in _ (by omega)
            clear hlf hnl
            clear hTj
            go_wp2_with fail
            refine KR.out.mono ?_
            rintro e w5 ⟨rfl, hb⟩
            have X := Blk.new w5 46 #[.int .i64 0, .int .i64 0, .int .i64 0]
            have HX := Lib.hid X
            have HBA := Lib.hid (hb.alloc hb.size (.cells #[.int .i64 0, .int .i64 0, .int .i64 0] 46))
            have HZ := Lib.hid hb.size
            have HT6 := Lib.hid (HTJ.out.more ((Spare.setRow (S := (· = w5.heap.size)) rfl #[.int .i64 t0, .int .i64 b1, .int .i64 b2]).below HBA.out (fun b e => by rw [e]; exact HZ.out) HBA.out.size))
            clear hb X KR
            go_wp2_with (refine wpList_store_row rfl 46 _ _ rfl w5.heap.size _ rfl rfl 46 _ HX.out (by kernel_rfl) (by simp) (by simp [Value.oneCell']) ?_)
            exact ⟨⟨j + 1, HJ.out, by rw [HNX.out], by go_num, HT6.out⟩, by simp [intOf]; have := HJ.out; omega⟩
        · obtain rfl : j = 10 := by omega
          have HT := Lib.hid hTj
          obtain ⟨e0, e1, e2⟩ := hTj.cells
          have hok := hTj.live.tab.1
          clear e0 e2 hTj
          by_cases hn0 : o.txn < 0
          · clear hok
            go_wp2
            go_ret
            exact ⟨rfl, HT.out.live.below⟩
          by_cases hn9 : 9 < o.txn
          · clear hok
            go_wp2
            go_ret
            exact ⟨rfl, HT.out.live.below⟩
          have h9 : ∀ y ∈ l1, y.txn ≤ 9 := fun y hy => (HM1.out y hy).elim id fun e => by omega
          have hall : l1.needTo 10 = l1.need := Tb.needTo_all hok.rise fun y hy => ⟨by have := hok.txn y hy; omega, by have := h9 y hy; omega⟩
          rw [hall]
          have K := HT.out.live.need
          have HK := Lib.hid K
          have H9 := Lib.hid h9
          have hne : (l1.need != l1.need) = false := by simp
          clear K h9 hall hok
          generalize l1.need = nd at *
          go_wp2_with fail
          refine HK.out.mono ?_
          rintro e w6 ⟨rfl, L6, -⟩
          have HL6 := Lib.hid L6
          clear L6 HK
          go_wp2
          exact ⟨⟨k + 1, F1, l1, HLT.out, by go_num, HL6.out, H9.out⟩, by simp [intOf]; have := HLT.out; omega⟩
    · obtain rfl : k = ops.length := by omega
      have HL := Lib.hid hL.below
      clear hL L0 hN
      go_wp2
      go_ret
      exact ⟨rfl, HL.out⟩
end Go.Proofs.Ytfbghdkbimnnbaa
