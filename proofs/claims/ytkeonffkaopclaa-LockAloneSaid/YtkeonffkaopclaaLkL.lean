/- The statement LockFree, walked. -/
import Derived.Test.YtkeonffkaopclaaLkK
namespace Go.Proofs.Ytkeonffkaopclaa
open Go.RowKit

/-- Nobody else than these two has anything. -/
def Two9 (S : Lk) (t u : Int) : Prop := ∀ i x, x ∈ (S i).who → x = t ∨ x = u
theorem Two9.take {S : Lk} {t u : Int} (h : Two9 S t u) {x : Int} (hx : x = t ∨ x = u) (p m : Int) : Two9 (S.take x p m) t u := by
  intro i y hy
  unfold Lk.take at hy
  by_cases h0 : S.may x p m = 0
  · rw [if_pos h0] at hy
    unfold Lk.give Lk.set at hy
    by_cases hi : i = p.toNat
    · rw [if_pos hi] at hy
      by_cases hm : x ∈ (S p.toNat).who
      · simp only [if_pos hm] at hy; exact h _ y hy
      · simp only [if_neg hm] at hy
        rcases List.mem_append.1 hy with hy | hy
        · exact h _ y hy
        · simp at hy; subst hy; exact hx
    · rw [if_neg hi] at hy; exact h i y hy
  · rw [if_neg h0] at hy; exact h i y hy
theorem free_pages {S : Lk} (h : S.Ok) (t : Int) : (S.free t).pages t = [] := by
  refine List.eq_nil_iff_forall_not_mem.2 fun i hi => ?_
  obtain ⟨h8, ht⟩ := mem_pages.1 hi
  unfold Lk.free at ht
  by_cases hm : i < 8 ∧ t ∈ (S i).who
  · rw [if_pos hm] at ht
    exact ((List.Nodup.mem_erase_iff (h.nodup i)).1 ht).1 rfl
  · rw [if_neg hm] at ht
    exact hm ⟨h8, ht⟩
theorem free_may {S : Lk} (h : S.Ok) {t u : Int} (h2 : Two9 S t u) (p : Int) : (S.free t).may u p 2 = 0 ∨ (S.free t).may u p 2 = 1 := by
  unfold Lk.may
  by_cases hc : Call9 u p 2
  · rw [if_pos hc]
    left
    rw [if_neg]
    rintro ⟨ho, _⟩
    obtain ⟨y, hy, hne⟩ := (others_true _ _).1 ho
    unfold Lk.free at hy
    by_cases hm : p.toNat < 8 ∧ t ∈ (S p.toNat).who
    · rw [if_pos hm] at hy
      have := (List.Nodup.mem_erase_iff (h.nodup _)).1 hy
      rcases h2 _ y this.2 with e | e
      · exact this.1 e
      · exact hne e
    · rw [if_neg hm] at hy
      rcases h2 _ y hy with e | e
      · subst e; exact hm ⟨by have := hc.2.2.1; have := hc.2.2.2.1; omega, hy⟩
      · exact hne e
  · rw [if_neg hc]; exact .inr rfl
set_option maxRecDepth 100000 in
set_option maxHeartbeats 16000000 in
theorem walkLockFree (v : Value) (ops : List Op9) (t u p : Int) (w : World) (hr : IsOps9 w v ops) (_ : (Lit.int .i64 t).wf = true) (_ : (Lit.int .i64 u).wf = true) (_ : (Lit.int .i64 p).wf = true) :
    Calls Try.prog 7 #[v, .int .i64 t, .int .i64 u, .int .i64 p] w fun e w' => e = .returned (.bool true) ∧ Below w.heap.size w w' := by
  have HV := Lib.hid hr
  obtain ⟨a, cap, rfl, h1, h2, _⟩ := hr
  have hlm : (ops.length : Int) ≤ 9223372036854775807 := by unfold maxLen at h2; omega
  clear h1 h2
  go_enter Try.func7, Try.ntmps7
  go_wp2_with fail
  refine (awake9 _).mono ?_
  rintro e w1 ⟨rfl, hb⟩
  have HB := Lib.hid hb
  clear hb
  by_cases h3 : (300 : Int) < ops.length
  · go_wp2_with fail
    refine (awake9 _).mono ?_
    rintro e w2 ⟨rfl, hb⟩
    have HB2 := Lib.hid (below2 HB.out hb)
    clear hb
    go_wp2
    go_ret
    exact ⟨rfl, HB2.out⟩
  by_cases htu : t = u
  · have htu' : (t == u) = true := by simpa using htu
    clear htu
    go_wp2_with fail
    refine (awake9 _).mono ?_
    rintro e w2 ⟨rfl, hb⟩
    have HB2 := Lib.hid (below2 HB.out hb)
    clear hb
    go_wp2
    go_ret
    exact ⟨rfl, HB2.out⟩
  have htu' : (t == u) = false := by simpa using htu
  clear htu
  go_wp2_with fail
  refine (LiveK.make HB.out).mono ?_
  rintro e w2 ⟨F0, q, rfl, L0⟩
  clear htu'
  go_wp2
  go_loopw [30] (fun i wr => ∃ (k : Nat) (F : Foot) (S : Lk), k ≤ ops.length ∧ i = .int .i64 k ∧ LiveK w wr F q S ∧ Two9 S t u) (fun i _ => (ops.length - intOf i).toNat)
  case atStart => exact ⟨0, F0, Lk.empty, Nat.zero_le _, rfl, L0, fun i x hx => by simp [Lk.empty] at hx⟩
  case round =>
    obtain ⟨k, F, S, hk, rfl, hL, h2⟩ := hrel
    by_cases hlt : k < ops.length
    · have HL := Lib.hid hL
      have H2 := Lib.hid h2
      have HLT := Lib.hid hlt
      obtain ⟨b, off, cap', hva, _, _, hbw, hel⟩ := HV.out.at_ (by omega)
      cases hva
      obtain ⟨hwf, hc⟩ := hel k hlt
      obtain ⟨c0, c1, c2, c3⟩ := hc.keep hL.below
      generalize ops[k] = o at *
      clear hel hc L0 hL hwf h2
      have x := Blk.new wr 31 (op9Cells o)
      have d0 := x.cell 0
      have d1 := x.cell 1
      have d2 := x.cell 2
      have d3 := x.cell 3
      have HL1 := Lib.hid (HL.out.more ((Below.refl wr.heap.size wr).alloc (Nat.le_refl _) (.cells (op9Cells o) 31)))
      simp [op9Cells] at d0 d1 d2 d3
      clear x HL
      by_cases e1 : o.txn = t
      · have e1' : (o.txn == t) = true := by simpa using e1
        have H2' := Lib.hid (H2.out.take (.inl e1) o.page o.mode)
        clear e1
        go_wp2_with fail
        refine (HL1.out.take _ _ _).mono ?_
        rintro e w4 ⟨F4, rfl, L4, -⟩
        have HL4 := Lib.hid L4
        clear L4 HL1
        go_wp2
        exact ⟨⟨k + 1, F4, _, HLT.out, by go_num, HL4.out, H2'.out⟩, by simp [intOf]; have := HLT.out; omega⟩
      · have e1' : (o.txn == t) = false := by simpa using e1
        clear e1
        by_cases e2 : o.txn = u
        · have e2' : (o.txn == u) = true := by simpa using e2
          have H2' := Lib.hid (H2.out.take (.inr e2) o.page o.mode)
          clear e2
          go_wp2_with fail
          refine (HL1.out.take _ _ _).mono ?_
          rintro e w4 ⟨F4, rfl, L4, -⟩
          have HL4 := Lib.hid L4
          clear L4 HL1
          go_wp2
          exact ⟨⟨k + 1, F4, _, HLT.out, by go_num, HL4.out, H2'.out⟩, by simp [intOf]; have := HLT.out; omega⟩
        · have e2' : (o.txn == u) = false := by simpa using e2
          clear e2
          go_wp2
          exact ⟨⟨k + 1, F, S, HLT.out, by go_num, HL1.out, H2.out⟩, by simp [intOf]; have := HLT.out; omega⟩
    · obtain rfl : k = ops.length := by omega
      have HL := Lib.hid hL
      have HOK := Lib.hid hL.lock.1
      have H2 := Lib.hid h2
      clear hL L0 h2
      go_wp2_with fail
      refine (HL.out.pages t).mono ?_
      rintro e w3 ⟨a3, c3, rfl, _, L3, -⟩
      have HL3 := Lib.hid L3
      clear L3 HL
      have hl8 : (S.pages t).length ≤ 8 := pagesTo_le S t 8
      have hl9 : ((S.pages t).length : Int) ≤ 9223372036854775807 := by omega
      clear hl8
      go_wp2_with fail
      refine (HL3.out.free t).mono ?_
      rintro e w4 ⟨F4, rfl, L4, -⟩
      have K4 := L4.pages t
      rw [free_pages HOK.out t] at K4
      have HK4 := Lib.hid K4
      clear L4 HL3 K4
      go_wp2_with fail
      refine HK4.out.mono ?_
      rintro e w5 ⟨a5, c5, rfl, _, L5, -⟩
      have K5 := L5.may u p 2
      have HM := Lib.hid (free_may HOK.out H2.out p)
      generalize (S.free t).may u p 2 = n at *
      have HK5 := Lib.hid K5
      clear L5 K5 HK4
      rcases HM.out with rfl | rfl
      · go_wp2_with fail
        refine HK5.out.mono ?_
        rintro e w6 ⟨rfl, L6, -⟩
        have HB6 := Lib.hid L6.below
        clear L6 HK5
        go_wp2
        go_ret
        exact ⟨rfl, HB6.out⟩
      · go_wp2_with fail
        refine HK5.out.mono ?_
        rintro e w6 ⟨rfl, L6, -⟩
        have HB6 := Lib.hid L6.below
        clear L6 HK5
        go_wp2
        go_ret
        exact ⟨rfl, HB6.out⟩
end Go.Proofs.Ytkeonffkaopclaa
