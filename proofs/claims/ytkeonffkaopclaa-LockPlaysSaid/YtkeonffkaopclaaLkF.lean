/- Package lock: Pages. -/
import Derived.Test.YtkeonffkaopclaaLkE
import Derived.Test.YtkeonffkaopclaaLists
namespace Go.Proofs.Ytkeonffkaopclaa
open Go.RowKit

/-- Whole numbers as values. -/
def numsV (l : List Nat) : List Value := l.map fun (n : Nat) => Value.int .i64 (n : Int)
theorem numsV_len (l : List Nat) : (numsV l).length = l.length := by simp [numsV]
def Lk.pagesTo (S : Lk) (t : Int) (k : Nat) : List Nat := (List.range k).filter fun i => decide (t ∈ (S i).who)
theorem pagesTo_yes {S : Lk} {t : Int} {k : Nat} (h : t ∈ (S k).who) : S.pagesTo t (k + 1) = S.pagesTo t k ++ [k] := by
  unfold Lk.pagesTo
  rw [List.range_succ, List.filter_append]
  simp [h]
theorem pagesTo_no {S : Lk} {t : Int} {k : Nat} (h : t ∉ (S k).who) : S.pagesTo t (k + 1) = S.pagesTo t k := by
  unfold Lk.pagesTo
  rw [List.range_succ, List.filter_append]
  simp [h]
theorem pagesTo_le (S : Lk) (t : Int) (k : Nat) : (S.pagesTo t k).length ≤ k := by
  unfold Lk.pagesTo
  exact Nat.le_trans (List.length_filter_le _ _) (by simp)
theorem numsV_snoc (l : List Nat) (k : Nat) : numsV l ++ [.int .i64 k] = numsV (l ++ [k]) := by simp [numsV]
theorem int_news (w : World) (v : Int) : ∀ (j : Nat) (u : Value), [Value.int .i64 v][j]? = some u → (w.alloc (.cells #[.int .i64 v] 3)).cell? ((⟨w.heap.size, 0, none⟩ : Addr).add j) = some u := by
  intro j u hj
  match j, hj with
  | 0, hj =>
    simp at hj
    subst hj
    exact (Blk.new w 3 #[.int .i64 v]).cellAt (i := 0) (by simp)
theorem int_one (v : Int) : ∀ u ∈ [Value.int .i64 v], u.oneCell' = true := by
  intro u hu; simp at hu; subst hu; rfl
theorem info_int9 : (Try.prog.toTables.info? 3).map (fun i => (i.zero, i.size, i.bytes)) = some (some (.int .i64 0), 1, 8) := by kernel_rfl
theorem index9 (M : Nat → Option Nat) (S : Lk) (W : World) : ∀ k : Nat, k < 8 → (Instr.index 47 (.agg (lkCells M S)) (.int .i64 k)).run Try.prog W = .ok (.agg #[.map (M k), .bool (S k).alone]) W
  | 0, _ => by kernel_rfl | 1, _ => by kernel_rfl | 2, _ => by kernel_rfl | 3, _ => by kernel_rfl | 4, _ => by kernel_rfl | 5, _ => by kernel_rfl | 6, _ => by kernel_rfl | 7, _ => by kernel_rfl
  | n + 8, h => by omega
section
variable {w : World} {F : Foot} {q : Nat} {S : Lk}
set_option maxRecDepth 100000 in
set_option maxHeartbeats 8000000 in
theorem lkPages_any (h : IsLock w F q S) (t : Int) :
    Calls Try.prog 20 #[.pointer (some ⟨q, 0, none⟩), .int .i64 t] w fun e w' => ∃ v, e = .returned v ∧ w'.ownsRow w.heap.size 3 1 v (S.pages t).length (numsV (S.pages t)) ∧ Below w.heap.size w w' := by
  obtain ⟨i0, hi, hz0, hz1, hz2⟩ := info_parts info_int9
  obtain ⟨ho, M, r⟩ := h
  have HH := Lib.hid (fun W (hW : Below w.heap.size w W) (k : Nat) (hk : k < 8) => lkHas_any ((r.below hW).held k hk) (S k).alone t)
  have HI := Lib.hid (index9 M S)
  have HBK := Lib.hid r.head
  have hsz : Hid ((lkCells M S).size = 16) := rfl
  have hS : S.pages t = S.pagesTo t 8 := rfl
  rw [hS]
  clear hS r ho
  generalize lkCells M S = cs at *
  go_enter Try.func20, Try.ntmps20
  go_upto_region 5 with (refine wpList_load_row rfl 47 _ rfl q rfl 49 _ (0, 0) _ HBK.out Try.underlying47 rfl (by rw [hsz.out]; kernel_rfl) ?_)
  clear HBK hsz
  go_loopw [5, 14] (fun v i wr => ∃ k : Nat, k ≤ 8 ∧ i = .int .i64 k ∧ wr.ownsRow w.heap.size 3 1 v (S.pagesTo t k).length (numsV (S.pagesTo t k)) ∧ Below w.heap.size w wr) (fun _ i _ => (8 - intOf i).toNat)
  case atStart => exact ⟨0, by omega, rfl, ⟨rfl, .inl ⟨rfl, rfl⟩⟩, Below.refl _ _⟩
  case round =>
    obtain ⟨k, hk, rfl, hown, hB⟩ := hrel
    by_cases h8 : k < 8
    · have hx := HI.out
      have hx2 := fun W => hx W k h8
      have H1 := Lib.hid (HH.out)
      have HK := Lib.hid h8
      have HO := Lib.hid hown
      have HB := Lib.hid hB
      have hki : (k : Int) < 8 := by omega
      have x := Blk.new wr 46 #[.map (M k), .bool (S k).alone]
      have d0 := x.cell 0
      have d1 := x.cell 1
      simp at d0 d1
      clear hx hown hB h8 hk x
      go_wp2_with fail
      refine (HH.out _ (HB.out.alloc HB.out.size _) k HK.out).mono ?_
      rintro e w1 ⟨rfl, hb⟩
      have HB1 := Lib.hid (HB.out.trans ((((Below.refl wr.heap.size wr).alloc (Nat.le_refl _) _).trans (hb.mono (by simp))).mono HB.out.size))
      have hown := own_below HO.out ((((Below.refl wr.heap.size wr).alloc (Nat.le_refl _) _).trans (hb.mono (by simp))))
      clear hb hx2 H1 d0 d1
      by_cases ht : t ∈ (S k).who
      · rw [decide_eq_true ht]
        have HL := Lib.hid (pagesTo_le S t k)
        have HN := Lib.hid (pagesTo_yes ht)
        have HM63 : (S.pagesTo t k).length + 1 ≤ maxLen := by have := HL.out; have := HK.out; unfold maxLen; omega
        have HM47 : ((S.pagesTo t k).length + 1) * 8 ≤ 140737488355328 := by have := HL.out; have := HK.out; omega
        have HBS : w.heap.size ≤ (w1.alloc (.cells #[.int .i64 k] 3)).heap.size := by have := HB1.out.size; simp; omega
        replace HM63 := HM63
        clear ht
        go_wp2_with (at_builtin; refine wpList_append_own _ rfl (.tmp 21) (.tmp 23) 36 rfl w.heap.size 3 i0 (.int .i64 0) 1 8 Try.underlying36 hi hz0 hz1 hz2 rfl (by decide) _ _ _ rfl (hown.alloc _) ⟨w1.heap.size, 0, none⟩ 1 1 [_] rfl rfl (int_news _ _) (int_one _) HM63 HM47 HBS ?_)
        intro v' w2 hown' hgrow _
        rw [numsV_snoc, ← HN.out] at hown'
        have hb' : Below w.heap.size w w2 := (HB1.out.alloc HB1.out.size _).grown hgrow (by have := HB1.out.size; simp; omega) (fun k hk => (hown.lt k hk).1)
        have HB2 := Lib.hid hb'
        have HO2 : Hid (w2.ownsRow w.heap.size 3 1 v' (S.pagesTo t (k + 1)).length (numsV (S.pagesTo t (k + 1)))) := by
          have e : (S.pagesTo t (k + 1)).length = (S.pagesTo t k).length + 1 := by rw [HN.out, List.length_append]; rfl
          rw [e]; exact hown'
        clear hown' hown hgrow hb'
        go_wp2
        go_roundw
        case rel => exact ⟨k + 1, by have := HK.out; omega, by go_num, HO2.out, HB2.out⟩
        case measure => simp [intOf]; omega
      · rw [decide_eq_false ht]
        have HN := Lib.hid (pagesTo_no ht)
        clear ht
        go_wp2
        go_roundw
        case rel => exact ⟨k + 1, by have := HK.out; omega, by go_num, by rw [HN.out]; exact hown, HB1.out⟩
        case measure => simp [intOf]; omega
    · obtain rfl : k = 8 := by omega
      go_wp2
      go_ret
      exact ⟨_, rfl, hown, hB⟩
end
end Go.Proofs.Ytkeonffkaopclaa
