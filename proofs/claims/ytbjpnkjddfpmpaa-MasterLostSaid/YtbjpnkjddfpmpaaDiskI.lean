/- Package disk: a sector is lost. -/
import Derived.Test.YtbjpnkjddfpmpaaDiskH
namespace Go.Proofs.Ytbjpnkjddfpmpaa
open Go.RowKit

section
variable {w : World} {F : Foot} {g : Nat} {d : Dk}
set_option maxRecDepth 100000 in
set_option maxHeartbeats 1000000 in
theorem lose1_any (j i : Int) (s : ByteArray) (c : Nat) (w : World) (hc : w.cell? ⟨c, 0, none⟩ = some (.int .i64 i)) (b : Bool) (hb : b = (j == i)) :
    Calls Try.prog 32 #[.agg #[.int .i64 j, .string s], .pointer (some ⟨c, 0, none⟩)] w fun e w' => e = .returned (.bool b) ∧ Below w.heap.size w w' := by
  have hlt := World.block_lt_of_cell? w _ hc
  have hc2 := ((Below.refl w.heap.size w).alloc (Nat.le_refl _) (.cells #[.int .i64 j, .string s] 69)).cell (p := ⟨c, 0, none⟩) hlt |>.trans hc
  have hb' := hb.symm
  have HB : Hid (b = (j == i)) := hb
  clear hb
  go_enter Try.func32, Try.ntmps32
  go_wp2
  go_ret
  exact ⟨rfl, (Below.refl _ _).alloc (Nat.le_refl _) _⟩
/-- The closure that asks whether a write is of sector k. -/
def ofSector (c : Nat) : Value := .func (.func 32) #[] #[.pointer (some ⟨c, 0, none⟩)]

set_option maxRecDepth 100000 in
set_option maxHeartbeats 4000000 in
theorem index_any (l : List (Nat × ByteArray)) (k c i : Nat) (v : Value) (w : World) (ho : w.ownsRow 0 69 2 v l.length (waitsV l)) (hc : w.cell? ⟨c, 0, none⟩ = some (.int .i64 k))
    (hi : i ≤ l.length) (hpre : ∀ j (hj : j < l.length), j < i → l[j].1 ≠ k) (hat : ∀ h : i < l.length, l[i].1 = k) (r : Int) (hr : r = if i < l.length then (i : Int) else -1) :
    Calls Try.prog 43 #[v, ofSector c] w fun e w' => e = .returned (.int .i64 r) ∧ Below w.heap.size w w' := by
  have hlc := World.block_lt_of_cell? w _ hc
  unfold ofSector
  rcases own_any ho with ⟨rfl, h0, _⟩ | ⟨q, cap, rfl, hq, hqm⟩
  · obtain rfl : l = [] := List.eq_nil_of_length_eq_zero h0
    obtain rfl : i = 0 := by simpa using hi
    obtain rfl : r = -1 := by simpa using hr
    clear ho hc hpre hat hi hr h0 hlc
    go_enter Try.func43, Try.ntmps43
    go_wp2
    refine wp_loop_rounds 1 ?_
    rw [rounds_succ]
    go_wp2
    go_ret
    exact ⟨rfl, Below.refl _ _⟩
  · have HO := Lib.hid ho
    have HPRE := Lib.hid hpre
    have HAT := Lib.hid hat
    have HC := Lib.hid hc
    have HRR := Lib.hid hr
    have hl : l.length ≤ 9223372036854775807 := by unfold maxLen at hqm; omega
    have hlq : q < w.heap.size := (ho.lt q rfl).2
    clear ho hpre hat hc hr
    go_enter Try.func43, Try.ntmps43
    go_wp2
    go_loopw [8] (fun v wr => ∃ j : Nat, j ≤ i ∧ v = .int .i64 j ∧ Below w.heap.size w wr) (fun v _ => l.length - (intOf v).toNat)
    case atStart => exact ⟨0, Nat.zero_le _, rfl, Below.refl _ _⟩
    case round =>
      obtain ⟨j, hj, rfl, hB⟩ := hrel
      by_cases hlt : j < l.length
      · obtain ⟨e0, e1⟩ := waitsV_at l j hlt
        have hcell := fun (x : Nat) => hB.cell (p := ⟨q, x, none⟩) hlq
        have q0 := (hcell _).trans ((HO.out.cellAt (j * 2) (by omega)).trans e0)
        have q1 := (hcell _).trans ((HO.out.cellAt (j * 2 + 1) (by omega)).trans e1)
        have hcc := (hB.cell (p := ⟨c, 0, none⟩) hlc).trans HC.out
        have H1 := Lib.hid (fun (b : Bool) (hb : b = ((l[j].1 : Int) == (k : Int))) => lose1_any (l[j].1 : Int) (k : Int) l[j].2 c wr hcc b hb)
        have hji : j < i → ((l[j].1 : Int) == (k : Int)) = false := fun h => by
          have := HPRE.out j hlt h
          rw [beq_eq_false_iff_ne]; omega
        have hje : ¬ j < i → ((l[j].1 : Int) == (k : Int)) = true := fun h => by
          obtain rfl : j = i := by omega
          have := HAT.out hlt
          rw [beq_iff_eq]; omega
        have HJI := Lib.hid hji
        have HJE := Lib.hid hje
        generalize (l[j].1 : Int) = x at *
        generalize l[j].2 = s at *
        clear hcc hcell e0 e1 hji hje
        by_cases hlast : j < i
        · have H2 := Lib.hid (H1.out false (HJI.out hlast).symm)
          clear H1 HJI HJE
          go_wp2_with fail
          refine H2.out.mono ?_
          rintro e w2 ⟨rfl, hb2⟩
          go_wp2
          go_roundw
          case rel => exact ⟨j + 1, by omega, by go_num, hB.trans (hb2.mono hB.size)⟩
          case measure => simp [intOf]; omega
        · have H2 := Lib.hid (H1.out true (HJE.out hlast).symm)
          obtain rfl : j = i := by omega
          have hr : r = (j : Int) := by rw [HRR.out, if_pos hlt]
          subst hr
          clear H1 HJI HJE HRR
          go_wp2_with fail
          refine H2.out.mono ?_
          rintro e w2 ⟨rfl, hb2⟩
          go_wp2
          go_ret
          exact ⟨rfl, hB.trans (hb2.mono hB.size)⟩
      · have hr : r = -1 := by rw [HRR.out, if_neg (by omega)]
        subst hr
        clear HRR
        go_wp2
        go_ret
        exact ⟨rfl, hB⟩
theorem grown_below {w w' w'' : World} {r : Option Nat} (h : w.grownBy w' r) (hb : Below w'.heap.size w' w'') : w.grownBy w'' r :=
  ⟨hb.os.trans h.os, hb.tape.trans h.tape, hb.output.trans h.output, Nat.le_trans h.size hb.size, fun b hl hn => (hb.block b (Nat.lt_of_lt_of_le hl h.size)).trans (h.block b hl hn)⟩
def kept (l : List (Nat × ByteArray)) (k : Nat) : List (Nat × ByteArray) := l.filter fun x => !((x.1 : Int) == (k : Int))
theorem kept_succ (l : List (Nat × ByteArray)) (k j : Nat) (h : j < l.length) : kept (l.take (j + 1)) k = kept (l.take j) k ++ if l[j].1 = k then [] else [l[j]] := by
  unfold kept
  rw [List.take_succ_eq_append_getElem h, List.filter_append]
  by_cases g : l[j].1 = k
  · simp [g]
  · rw [if_neg g, List.filter_cons_of_pos (by simp; omega), List.filter_nil]
theorem kept_none (l : List (Nat × ByteArray)) (k i : Nat) (h : ∀ j (hj : j < l.length), j < i → l[j].1 ≠ k) : kept (l.take i) k = l.take i := by
  unfold kept
  refine List.filter_eq_self.2 fun x hx => ?_
  obtain ⟨j, hj, rfl⟩ := List.mem_iff_getElem.1 hx
  rw [List.length_take] at hj
  rw [List.getElem_take]
  have := h j (by omega) (by omega)
  simp; omega
/-- What stands amid the loop: the first i are those that are kept of the first j; those from j on are as they were. -/
structure Amid (l cur : List (Nat × ByteArray)) (k i j : Nat) : Prop where
  len : cur.length = l.length
  le : i < j
  jn : j ≤ l.length
  head : cur.take i = kept (l.take j) k
  tail : cur.drop j = l.drop j
namespace Amid
variable {l cur : List (Nat × ByteArray)} {k i j : Nat}
theorem at_ (h : Amid l cur k i j) (hj : j < l.length) (hc : j < cur.length) : cur[j] = l[j] := by
  have h1 : (cur.drop j)[0]? = (l.drop j)[0]? := by rw [h.tail]
  simpa [List.getElem?_drop, hj, hc] using h1
theorem skip (h : Amid l cur k i j) (hj : j < l.length) (hk : l[j].1 = k) : Amid l cur k i (j + 1) :=
  ⟨h.len, by have := h.le; omega, hj, by rw [kept_succ l k j hj, if_pos hk, List.append_nil]; exact h.head, by rw [← List.drop_drop, ← List.drop_drop, h.tail]⟩
theorem move (h : Amid l cur k i j) (hj : j < l.length) (hk : l[j].1 ≠ k) : Amid l (cur.set i l[j]) k (i + 1) (j + 1) := by
  have hi := h.le
  have hl := h.len
  refine ⟨by simp [hl], by omega, hj, ?_, ?_⟩
  · rw [kept_succ l k j hj, if_neg hk, ← h.head, List.take_succ_eq_append_getElem (by simp; omega)]
    simp [List.take_set_of_le]
  · rw [List.drop_set_of_lt (by omega), ← List.drop_drop, ← List.drop_drop, h.tail]
end Amid
theorem waitsV_set (l : List (Nat × ByteArray)) (i : Nat) (x : Nat × ByteArray) (h : i < l.length) : ((waitsV l).set (i * 2) (.int .i64 x.1)).set (i * 2 + 1) (.string x.2) = waitsV (l.set i x) := by
  induction l generalizing i with
  | nil => simp at h
  | cons y l ih =>
    have e : waitsV (y :: l) = .int .i64 y.1 :: .string y.2 :: waitsV l := rfl
    cases i with
    | zero => rfl
    | succ i =>
      rw [e, show (i + 1) * 2 = i * 2 + 1 + 1 from by omega]
      simp only [List.set_cons_succ]
      rw [ih i (by simpa using h)]
      rfl
theorem waitsV_take (l : List (Nat × ByteArray)) (i : Nat) : (waitsV l).take (i * 2) = waitsV (l.take i) := by
  induction l generalizing i with
  | nil => simp [waitsV]
  | cons y l ih =>
    cases i with
    | zero => rfl
    | succ i =>
      rw [show (i + 1) * 2 = i * 2 + 1 + 1 from by omega]
      show (Value.int .i64 y.1 :: .string y.2 :: waitsV l).take (i * 2 + 1 + 1) = _
      simp only [List.take_succ_cons]
      rw [ih i]
      rfl

theorem own_cells {w : World} {q n cap e size : Nat} {xs : List Value} (h : w.ownsRow 0 e size (.slice (some ⟨q, 0, none⟩) n cap) n xs) : ∃ cur : Array Value, w.heap[q]? = some (.cells cur e (0, 0)) ∧ cur.size = cap * size ∧ cur.toList.take (n * size) = xs := by
  obtain ⟨_, ⟨e, _⟩ | ⟨g, c, cur, e, _, hg, _, _, h3, h4⟩⟩ := h
  · cases e
  · simp only [Value.slice.injEq, Option.some.injEq, Addr.mk.injEq, and_true, true_and] at e
    obtain ⟨rfl, rfl⟩ := e
    exact ⟨cur, hg, h3, h4⟩
theorem zero_len (n : Nat) : (Builtin.zeroCells #[Value.int .i64 0, .string ⟨#[]⟩] n).toList.length = n * 2 := by simp [Builtin.zeroCells]
theorem zero_one (n : Nat) : ∀ v ∈ (Builtin.zeroCells #[Value.int .i64 0, .string ⟨#[]⟩] n).toList, v.oneCell' = true := by
  intro v hv
  unfold Builtin.zeroCells at hv
  simp only [Array.toList_map, List.mem_map] at hv
  obtain ⟨i, _, rfl⟩ := hv
  have : i % 2 = 0 ∨ i % 2 = 1 := by omega
  show (#[Value.int .i64 0, .string ⟨#[]⟩][i % 2]!).oneCell' = true
  rcases this with h | h <;> rw [h] <;> rfl
/-- 'clear(s)' of a row of writes. -/
theorem clear_wide (w : World) (q off n c : Nat) (cur : Array Value) (hg : w.heap[q]? = some (.cells cur 69 (0, 0))) (hn : 0 < n) (hfit : off + n * 2 ≤ cur.size) :
    (Builtin.clear_ #[54] 0 #[.slice (some ⟨q, off, none⟩) n c]).run Try.prog w =
      .ok (.tuple #[]) (w.setRow q (cur.toList.take off ++ (Builtin.zeroCells #[Value.int .i64 0, .string ⟨#[]⟩] n).toList ++ cur.toList.drop (off + n * 2)).toArray) := by
  obtain ⟨m, rfl⟩ : ∃ m, n = m + 1 := ⟨n - 1, by omega⟩
  have hst := run_storeCells_at Try.prog q off 69 (Builtin.zeroCells #[Value.int .i64 0, .string ⟨#[]⟩] (m + 1)).toList 0 cur w hg (by rw [zero_len]; omega) (zero_one _)
  rw [zero_len] at hst
  simp only [Nat.add_zero] at hst
  have hz := zero_write w
  simp only [Builtin.clear_, List.getElem?_toArray, List.getElem?_cons_zero, Sem.run_bind, run_underlying Try.underlying54, Result.andThen_ok, hz]
  rw [show (Value.agg #[Value.int .i64 0, .string ⟨#[]⟩]).cells = #[Value.int .i64 0, .string ⟨#[]⟩] from rfl, hst]
  rfl
/-- A row that is cut off behind i, what was behind it written over. -/
theorem own_cut {w : World} {q i cap e m : Nat} {cur : Array Value} {Z xs : List Value} (ho : w.heap[q]? = some (.cells cur e (0, 0))) (hi : i ≤ cap) (hm : cap ≤ maxLen) (hs : cur.size = cap * 2) (hZ : Z.length = m) (hZm : i * 2 + m ≤ cap * 2) (hx : cur.toList.take (i * 2) = xs) :
    (w.setRow q (cur.toList.take (i * 2) ++ Z ++ cur.toList.drop (i * 2 + m)).toArray).ownsRow 0 e 2 (.slice (some ⟨q, 0, none⟩) i cap) i xs ∧
      w.grownBy (w.setRow q (cur.toList.take (i * 2) ++ Z ++ cur.toList.drop (i * 2 + m)).toArray) (some q) := by
  subst hZ
  have hb : Blk w q e cur := ho
  have hl : (cur.toList.take (i * 2)).length = i * 2 := by rw [List.length_take, Array.length_toList]; omega
  refine ⟨⟨by rw [← hx]; exact hl, .inr ⟨q, cap, _, rfl, Nat.zero_le _, hb.setRow _, hi, hm, ?_, ?_⟩⟩, ⟨rfl, rfl, rfl, by simp [World.setRow], fun b _ hne => setRow_other w q b _ (fun e => hne (by rw [e]))⟩⟩
  · simp only [List.size_toArray, List.length_append, hl, List.length_drop, Array.length_toList]
    omega
  · simp only [List.append_assoc]
    rw [List.take_append_of_le_length (by omega), List.take_of_length_le (by omega)]
    exact hx

set_option maxRecDepth 100000 in
set_option maxHeartbeats 4000000 in
theorem delete_some (l : List (Nat × ByteArray)) (k c i0 q cap : Nat) (w : World) (ho : w.ownsRow 0 69 2 (.slice (some ⟨q, 0, none⟩) l.length cap) l.length (waitsV l)) (hc : w.cell? ⟨c, 0, none⟩ = some (.int .i64 k)) (hcq : c ≠ q)
    (hi : i0 < l.length) (hpre : ∀ j (hj : j < l.length), j < i0 → l[j].1 ≠ k) (hat : l[i0].1 = k) :
    Calls Try.prog 31 #[.slice (some ⟨q, 0, none⟩) l.length cap, ofSector c] w fun e w' =>
      e = .returned (.slice (some ⟨q, 0, none⟩) (kept l k).length cap) ∧ w'.ownsRow 0 69 2 (.slice (some ⟨q, 0, none⟩) (kept l k).length cap) (kept l k).length (waitsV (kept l k)) ∧ w.grownBy w' (some q) := by
  have hlc := World.block_lt_of_cell? w _ hc
  have hlq : q < w.heap.size := (ho.lt q rfl).2
  have hcap : l.length ≤ cap ∧ cap ≤ maxLen := by
    rcases own_any ho with ⟨e, _⟩ | ⟨g, cap', e, h1, h2⟩
    · cases e
    · simp only [Value.slice.injEq] at e; omega
  have hl : l.length ≤ 9223372036854775807 := by have := hcap.2; unfold maxLen at this; omega
  have HI := Lib.hid (fun W ho hc => index_any l k c i0 (.slice (some ⟨q, 0, none⟩) l.length cap) W ho hc (by omega) hpre (fun _ => hat) (i0 : Int) (by rw [if_pos hi]))
  have hA0 : Amid l l k i0 (i0 + 1) := ⟨rfl, by omega, hi, by rw [kept_succ l k i0 hi, if_pos hat, List.append_nil, kept_none l k i0 hpre], rfl⟩
  have HA0 := Lib.hid hA0
  have HO := Lib.hid ho
  have HC := Lib.hid hc
  have hi0 : (0 : Int) ≤ (i0 : Int) := Int.natCast_nonneg _
  have hne : ((i0 : Int) == -1) = false := by rw [beq_eq_false_iff_ne]; omega
  clear hA0 ho hc hpre hat
  unfold ofSector at *
  go_enter Try.func31, Try.ntmps31
  go_wp2_with fail
  refine (HI.out _ HO.out HC.out).mono ?_
  rintro e w1 ⟨rfl, hb1⟩
  go_wp2_with fail
  go_loopw [5, 6] (fun vi vj wr => ∃ (i j : Nat) (cur : List (Nat × ByteArray)), Amid l cur k i j ∧ vi = .int .i64 i ∧ vj = .int .i64 j ∧ wr.ownsRow 0 69 2 (.slice (some ⟨q, 0, none⟩) l.length cap) l.length (waitsV cur) ∧ w.grownBy wr (some q)) (fun _ vj _ => l.length - (intOf vj).toNat)
  case atStart => exact ⟨i0, i0 + 1, l, HA0.out, rfl, by go_num, own_below HO.out hb1, ⟨hb1.os, hb1.tape, hb1.output, hb1.size, fun b hb _ => hb1.block b hb⟩⟩
  case round =>
    obtain ⟨i, j, cur, hA, rfl, rfl, ho, hg⟩ := hrel
    have hij := hA.le
    have hjn := hA.jn
    have hcl := hA.len
    by_cases hlt : j < l.length
    · obtain ⟨e0, e1⟩ := waitsV_at cur j (by omega)
      rw [hA.at_ hlt (by omega)] at e0 e1
      have q0 := (ho.cellAt (j * 2) (by omega)).trans e0
      have q1 := (ho.cellAt (j * 2 + 1) (by omega)).trans e1
      have hcc := (hg.cell_far ⟨c, 0, none⟩ hlc (by simp [hcq])).trans HC.out
      have hlc2 := World.block_lt_of_cell? wr _ hcc
      have hcc2 := (World.cell?_alloc_lt wr (.cells #[.int .i64 (l[j].1 : Int), .string l[j].2] 69) ⟨c, 0, none⟩ hlc2).trans hcc
      have H1 := Lib.hid (fun (b : Bool) (hb : b = ((l[j].1 : Int) == (k : Int))) => lose1_any (l[j].1 : Int) (k : Int) l[j].2 c _ hcc2 b hb)
      have hgA : w.grownBy (wr.alloc (.cells #[.int .i64 (l[j].1 : Int), .string l[j].2] 69)) (some q) := ⟨hg.os, hg.tape, hg.output, by have := hg.size; simp; omega, fun b hb hne => (Below.heap_alloc _ _ _ (Nat.lt_of_lt_of_le hb hg.size)).trans (hg.block b hb hne)⟩
      have hoA := ho.alloc (.cells #[.int .i64 (l[j].1 : Int), .string l[j].2] 69)
      have bx := Blk.new wr 69 #[.int .i64 (l[j].1 : Int), .string l[j].2]
      have HGA := Lib.hid hgA
      have HOA := Lib.hid hoA
      have HBX := Lib.hid bx
      have HAM := Lib.hid hA
      clear hA hg ho hcc hcc2 hgA hoA bx e0 e1
      by_cases hjk : l[j].1 = k
      · have H2 := Lib.hid (H1.out true (by rw [hjk]; simp))
        have HS := Lib.hid (HAM.out.skip hlt hjk)
        clear H1 hjk HBX
        go_wp2_with fail
        refine H2.out.mono ?_
        rintro e w2 ⟨rfl, hb2⟩
        go_wp2
        go_roundw
        case rel => exact ⟨i, j + 1, cur, HS.out, rfl, by go_num, own_below HOA.out hb2, grown_below HGA.out hb2⟩
        case measure => simp [intOf]; omega
      · have H2 := Lib.hid (H1.out false (by symm; rw [beq_eq_false_iff_ne]; omega))
        have HS := Lib.hid (HAM.out.move hlt hjk)
        clear H1 hjk
        go_wp2_with fail
        refine H2.out.mono ?_
        rintro e w2 ⟨rfl, hb2⟩
        have ho2 := own_below HOA.out hb2
        have hg2 := grown_below HGA.out hb2
        have bx := HBX.out.keep hb2 HBX.out.lt
        have b0 := bx.cell 0
        have b1 := bx.cell 1
        obtain ⟨u0, hu0⟩ : ∃ u, (waitsV cur)[i * 2]? = some u := ⟨_, List.getElem?_eq_getElem (by rw [waitsV_len]; omega)⟩
        obtain ⟨u1, hu1⟩ : ∃ u, (waitsV cur)[i * 2 + 1]? = some u := ⟨_, List.getElem?_eq_getElem (by rw [waitsV_len]; omega)⟩
        have s0 := (ho2.cellAt (i * 2) (by omega)).trans hu0
        have s1 := (ho2.cellAt (i * 2 + 1) (by omega)).trans hu1
        have f0 := ho2.frozenAt (i * 2)
        have f1 := ho2.frozenAt (i * 2 + 1)
        have HO2 := Lib.hid ho2
        have HG2 := Lib.hid hg2
        clear bx ho2 hg2 hu0 hu1
        go_wp2_with fail
        go_roundw
        case rel =>
          refine ⟨i + 1, j + 1, cur.set i l[j], HS.out, by go_num, by go_num, ?_, ?_⟩
          · have h1 := (HO2.out.stored (i * 2) (.int .i64 (l[j].1 : Int))).1
            have h2 := (h1.stored (i * 2 + 1) (.string l[j].2)).1
            rw [waitsV_set cur i l[j] (by omega)] at h2
            exact h2
          · exact grown_trans' (grown_trans' HG2.out (grown_set _ _ _ _)) (grown_set _ _ _ _)
        case measure => simp [intOf]; omega
    · obtain rfl : j = l.length := by omega
      obtain ⟨curA, hblk, hsz, htk⟩ := own_cells ho
      have hkl : kept l k = cur.take i := by rw [hA.head, List.take_length]
      have hklen : (kept l k).length = i := by rw [hkl, List.length_take]; omega
      have hrun := clear_wide wr q (i * 2) (l.length - i) (cap - i) curA hblk (by omega) (by omega)
      have hfin := own_cut (ho := hblk) (i := i) (cap := cap) (by omega) hcap.2 hsz (zero_len (l.length - i)) (by omega) (show curA.toList.take (i * 2) = waitsV (kept l k) from by
        rw [hkl, ← waitsV_take, ← htk, List.take_take, Nat.min_eq_left (by omega)])
      have HF := Lib.hid (grown_trans' hg hfin.2)
      have HR := Lib.hid hfin.1
      have hcI : (i : Int) ≤ (l.length : Int) := by omega
      have hnc : ¬ cap = i := by omega
      have hi0' : (0 : Int) ≤ i := Int.natCast_nonneg _
      have hcapI : (l.length : Int) ≤ (cap : Int) := by omega
      have hicap : (i : Int) ≤ (cap : Int) := by omega
      have hsub : ((l.length : Int) - i).toNat = l.length - i := by omega
      have HK := Lib.hid hklen
      clear hA hg ho hblk hfin hkl hklen htk
      go_wp2
      go_ret
      refine ⟨by rw [HK.out]; rfl, ?_, by simpa only [List.append_assoc] using HF.out⟩
      rw [HK.out]
      simpa only [List.append_assoc] using HR.out
set_option maxRecDepth 100000 in
set_option maxHeartbeats 4000000 in
theorem delete_none (l : List (Nat × ByteArray)) (k c : Nat) (v : Value) (w : World) (ho : w.ownsRow 0 69 2 v l.length (waitsV l)) (hc : w.cell? ⟨c, 0, none⟩ = some (.int .i64 k)) (hpre : ∀ j (hj : j < l.length), l[j].1 ≠ k) :
    Calls Try.prog 31 #[v, ofSector c] w fun e w' => e = .returned v ∧ Below w.heap.size w w' := by
  have HI := Lib.hid (index_any l k c l.length v w ho hc (Nat.le_refl _) (fun j hj _ => hpre j hj) (fun h => absurd h (Nat.lt_irrefl _)) (-1) (by rw [if_neg (Nat.lt_irrefl _)]))
  clear ho hc hpre
  unfold ofSector at *
  go_enter Try.func31, Try.ntmps31
  go_wp2_with fail
  refine HI.out.mono ?_
  rintro e w1 ⟨rfl, hb1⟩
  go_wp2
  go_ret
  exact ⟨rfl, hb1⟩
/-- Where the first write of a sector is, if there is one. -/
theorem first_at (l : List (Nat × ByteArray)) (k : Nat) : (∀ j (hj : j < l.length), l[j].1 ≠ k) ∨ ∃ i, ∃ h : i < l.length, l[i].1 = k ∧ ∀ j (hj : j < l.length), j < i → l[j].1 ≠ k := by
  by_cases hn : ∃ i, ∃ h : i < l.length, l[i].1 = k
  · right
    obtain ⟨i, hi⟩ := hn
    induction i using Nat.strongRecOn with
    | _ i ih =>
      by_cases hj : ∃ j, ∃ h : j < l.length, j < i ∧ l[j].1 = k
      · obtain ⟨j, h, hji, he⟩ := hj
        exact ih j hji ⟨h, he⟩
      · exact ⟨i, hi.1, hi.2, fun j h hji he => hj ⟨j, h, hji, he⟩⟩
  · exact .inl fun j hj he => hn ⟨j, hj, he⟩
theorem delete_any (l : List (Nat × ByteArray)) (k c : Nat) (v : Value) (w : World) (ho : w.ownsRow 0 69 2 v l.length (waitsV l)) (hc : w.cell? ⟨c, 0, none⟩ = some (.int .i64 k)) (hcv : v.ownBlock ≠ some c) :
    Calls Try.prog 31 #[v, ofSector c] w fun e w' => ∃ v', e = .returned v' ∧ w'.ownsRow 0 69 2 v' (kept l k).length (waitsV (kept l k)) ∧ w.grownBy w' v.ownBlock ∧ v'.ownBlock = v.ownBlock := by
  rcases first_at l k with h | ⟨i, hi, hk, hpre⟩
  · refine (delete_none l k c v w ho hc h).mono fun e w' ⟨he, hb⟩ => ⟨v, he, ?_, ⟨hb.os, hb.tape, hb.output, hb.size, fun b hl _ => hb.block b hl⟩, rfl⟩
    have e : kept l k = l := by
      have := kept_none l k l.length (fun j hj _ => h j hj)
      rwa [List.take_length] at this
    rw [e]
    exact own_below ho hb
  · rcases own_any ho with ⟨_, h0, _⟩ | ⟨q, cap, rfl, _⟩
    · omega
    · exact (delete_some l k c i q cap w ho hc (fun e => hcv (by rw [e]; rfl)) hi hpre hk).mono fun e w' ⟨he, h1, h2⟩ => ⟨_, he, h1, h2, rfl⟩

end
end Go.Proofs.Ytbjpnkjddfpmpaa
