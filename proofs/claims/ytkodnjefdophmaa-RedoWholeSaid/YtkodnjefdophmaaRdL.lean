/- careenlaw14: few; awake (what the document fixes). -/
import Derived.Test.YtkodnjefdophmaaRdI
import Derived.Test.YtkodnjefdophmaaRdK
import Derived.Test.YtkodnjefdophmaaQx
import Derived.Test.YtkodnjefdophmaaChM0
namespace Go.Proofs.Ytkodnjefdophmaa
open Go.RowKit

/-- Few and small. -/
def FewP (l : List Hs.Pge) : Prop := l.length ≤ 20 ∧ ∀ p ∈ l, p.2.size ≤ 500
section
set_option maxRecDepth 100000
set_option maxHeartbeats 8000000
theorem few14_any {w : World} {v : Value} {l : List Hs.Pge} (hv : IsPgs w v l) (hz : ∀ p ∈ l, p.2.size ≤ maxLen) (yes : Bool) (hy : yes = true ↔ FewP l) :
    Calls Try.prog 10 #[v] w fun e w' => e = .returned (.bool yes) ∧ Below w.heap.size w w' := by
  have hlm := Elems.le hv
  unfold maxLen at hlm
  obtain ⟨va, vc, rfl⟩ := hv.form
  have HV := Lib.hid hv
  have HY := Lib.hid hy
  have HZ := Lib.hid hz
  clear hv hy hz
  go_enter Try.func10, Try.ntmps10
  go_wp2_with fail
  go_loopw [7] (fun vk wr => ∃ k : Nat, vk = .int .i64 k ∧ k ≤ l.length ∧ (∀ j (h : j < l.length), j < k → l[j].2.size ≤ 500) ∧ Below w.heap.size w wr) (fun vk _ => l.length - (intOf vk).toNat)
  case atStart => exact ⟨0, rfl, Nat.zero_le _, fun j _ h => by omega, Below.refl _ _⟩
  case round =>
    obtain ⟨k, rfl, hk, hno, hB⟩ := hrel
    have HNO := Lib.hid hno
    have HB := Lib.hid hB
    clear hno hB
    by_cases hlt : k < l.length
    · have HLT := Lib.hid hlt
      have hkI : (k : Int) < l.length := by omega
      obtain ⟨b, off, cap, hva, _, _, lt1, g1⟩ := (HV.out.keep HB.out).at_ hlt
      obtain ⟨rfl, hva2, rfl⟩ := Value.slice.inj hva
      obtain ⟨d0, d1⟩ := g1 k hlt
      have HSZ := Lib.hid (HZ.out _ (List.getElem_mem hlt))
      have HK := Lib.hid (fun (h5 : l[k].2.size ≤ 500) => show ∀ j (h : j < l.length), j < k + 1 → l[j].2.size ≤ 500 from fun j h hj => by
        rcases Nat.lt_or_ge j k with hjk | hjk
        · exact HNO.out j h hjk
        · obtain rfl : j = k := by omega
          exact h5)
      have HN := Lib.hid (show ¬ l[k].2.size ≤ 500 → ¬ FewP l from fun h h2 => h (h2.2 _ (List.getElem_mem hlt)))
      clear hva hva2 g1
      generalize l[k] = q at *
      clear hlt
      obtain ⟨q1, q2⟩ := q
      simp only at d0 d1
      have hn := Blk.new wr 30 #[.int .i64 0, .string ⟨#[]⟩]
      have hb3 := below_setRow ((Below.refl wr.heap.size wr).alloc (Nat.le_refl _) (.cells #[.int .i64 0, .string ⟨#[]⟩] 30)) (Nat.le_refl _) #[.int .i64 q1, .string q2]
      have N3 := hn.setRow #[.int .i64 q1, .string q2]
      have HB3 := Lib.hid (below2 HB.out hb3)
      clear hb3 HB
      go_upto_region 4 with (refine wpList_store_row rfl 30 _ _ rfl wr.heap.size _ rfl rfl 30 _ hn (by kernel_rfl) (by simp) (by simp [Value.oneCell']) ?_)
      change Code.wp _ _ _ _ ((wr.alloc (.cells #[.int .i64 0, .string ⟨#[]⟩] 30)).setRow wr.heap.size #[.int .i64 q1, .string q2])
      clear hn d0 d1 lt1
      generalize (wr.alloc _).setRow _ _ = w3 at *
      generalize wr.heap.size = y at *
      have d1 : w3.cell? ⟨y, 1, none⟩ = some (.string q2) := N3.cell 1
      clear N3
      by_cases h5 : q2.size ≤ 500
      · have HQ := Lib.hid (HK.out h5)
        clear HK HN
        go_wp2
        exact ⟨⟨k + 1, by go_num, HLT.out, HQ.out, HB3.out⟩, by simp [intOf]; have := HLT.out; omega⟩
      · have e0 : yes = false := by
          rw [Bool.eq_false_iff]
          exact fun h => HN.out h5 (HY.out.1 h)
        subst e0
        clear HK HN HY
        go_wp2
        go_ret
        exact ⟨rfl, HB3.out⟩
    · have e0 : yes = decide ((l.length : Int) ≤ 20) := by
        rw [Bool.eq_iff_iff, HY.out, decide_eq_true_eq]
        refine ⟨fun h => by have := h.1; omega, fun h => ⟨by omega, fun p hp => ?_⟩⟩
        obtain ⟨j, hj, rfl⟩ := List.getElem_of_mem hp
        exact HNO.out j hj (by omega)
      subst e0
      clear HY
      go_wp2
      go_ret
      exact ⟨rfl, HB.out⟩

def e14a : En := (128, ⟨1, 1, 0, 0, 0, 0, 0, ⟨#[97]⟩, ⟨#[98]⟩, [], []⟩)
def e14b : En := (150, ⟨2, 1, 0, 1, 0, 0, 0, ⟨#[]⟩, ⟨#[99]⟩, [], []⟩)
def p14a : ByteArray := putS noughts 0 ⟨#[98]⟩
def p14b : ByteArray := putS p14a 1 ⟨#[99]⟩
theorem one14a : Hs.oneL [e14a] 0 = (128, p14a) := by decide +kernel
theorem one14b : Hs.oneL [e14a, e14b] 0 = (150, p14b) := by decide +kernel
theorem pgs14ab : pgs14 [e14a, e14b] 128 [(128, p14a)] = [(150, p14b)] := by decide +kernel
theorem p14_size : p14a.size = 220 ∧ p14b.size = 220 ∧ p14b.extract 0 3 = ⟨#[98, 99, 0]⟩ := by decide +kernel
def a14V : Array Value := #[.int .i64 128, .int .i64 1, .int .i64 1, .int .i64 0, .int .i64 0, .int .i64 0, .int .i64 0, .int .i64 0, .string ⟨#[97]⟩, .string ⟨#[98]⟩, .slice none 0 0, .slice none 0 0,
  .int .i64 150, .int .i64 2, .int .i64 1, .int .i64 0, .int .i64 1, .int .i64 0, .int .i64 0, .int .i64 0, .string ⟨#[]⟩, .string ⟨#[99]⟩, .slice none 0 0, .slice none 0 0]
theorem a14_ents {w : World} {g : Nat} (h : Blk w g 39 a14V) : IsEnts w (.slice (some ⟨g, 0, none⟩) 2 2) [e14a, e14b] :=
  ents_laid h [e14a, e14b] (by decide) (by decide) fun j hj => match j, hj with
    | 0, _ => lt12 ⟨rfl, rfl, rfl, rfl, rfl, rfl, rfl, rfl, rfl, rfl, rfl, rfl⟩
    | 1, _ => lt12 ⟨rfl, rfl, rfl, rfl, rfl, rfl, rfl, rfl, rfl, rfl, rfl, rfl⟩
theorem IsEnts.take {w : World} {a : Option Addr} {l : List Ent} {c : Nat} (h : IsEnts w (.slice a l.length c) l) (k : Nat) (hk : k ≤ l.length) : IsEnts w (.slice a k c) (l.take k) := by
  obtain ⟨a', cap, e, h1, h2, h3⟩ := h
  obtain ⟨rfl, _, rfl⟩ := Value.slice.inj e
  refine ⟨a, c, by rw [List.length_take, Nat.min_eq_left hk], by rw [List.length_take]; omega, h2, fun j hj => ?_⟩
  have hj2 : j < l.length := by rw [List.length_take] at hj; omega
  have := h3 j hj2
  rwa [show (l.take k)[j] = l[j] from List.getElem_take]
theorem a14_ents1 {w : World} {g : Nat} (h : Blk w g 39 a14V) : IsEnts w (.slice (some ⟨g, 0, none⟩) 1 2) [e14a] := IsEnts.take (l := [e14a, e14b]) (a14_ents h) 1 (by decide)
theorem a14_small : ∀ x ∈ [e14a, e14b], x.2.after.size ≤ maxLen := by decide
theorem a14_small1 : ∀ x ∈ [e14a], x.2.after.size ≤ maxLen := by decide

theorem awake14 (w : World) : Calls Try.prog 8 #[] w fun e w' => e = .returned (.bool true) ∧ Below w.heap.size w w' := by
  have HS := Lib.hid p14_size
  have G1 := Lib.hid one14a
  have G2 := Lib.hid one14b
  have G3 := Lib.hid pgs14ab
  generalize p14a = pa at *
  generalize p14b = pb at *
  go_enter Try.func8, Try.ntmps8
  go_upto_region 2 with fail
  change Code.wp _ _ _ _ (w.alloc (.cells a14V 39))
  have e3 := Blk.new w 39 a14V
  have b3 : Below w.heap.size w (w.alloc (.cells a14V 39)) := (Below.refl _ _).alloc (Nat.le_refl _) _
  generalize w.alloc (.cells a14V 39) = w1 at *
  generalize hgg : w.heap.size = g at e3 ⊢
  have HGG := Lib.hid hgg
  clear hgg
  have C1 := rdOne_any 0 (a14_ents1 e3) a14_small1
  rw [G1.out] at C1
  have C1 := Lib.hid C1
  have HB1 := Lib.hid b3
  clear b3
  go_wp2_with fail
  refine C1.out.mono ?_
  clear C1
  rintro e w2 ⟨rfl, hb⟩
  have e4 := e3.keep hb e3.lt
  have HB2 := Lib.hid (below2 HB1.out hb)
  clear hb HB1 e3
  have N2 := Blk.new w2 30 #[.int .i64 0, .string ⟨#[]⟩]
  have hb3 := below_setRow ((Below.refl w2.heap.size w2).alloc (Nat.le_refl _) (.cells #[.int .i64 0, .string ⟨#[]⟩] 30)) (Nat.le_refl _) #[.int .i64 128, .string pa]
  have X3 := N2.setRow #[.int .i64 128, .string pa]
  have e5 := e4.keep hb3 e4.lt
  have HB3 := Lib.hid (below2 HB2.out hb3)
  clear hb3 e4 HB2
  go_upto_region 3 with (refine wpList_store_row rfl 30 _ _ rfl w2.heap.size _ rfl rfl 30 _ N2 (by kernel_rfl) (by simp) (by simp [Value.oneCell']) ?_)
  change Code.wp _ _ _ _ ((w2.alloc (.cells #[.int .i64 0, .string ⟨#[]⟩] 30)).setRow w2.heap.size #[.int .i64 128, .string pa])
  clear N2
  generalize (w2.alloc _).setRow _ _ = w3 at *
  generalize w2.heap.size = g2 at *
  have c0 : w3.cell? ⟨g2, 0, none⟩ = some (.int .i64 128) := X3.cell 0
  have c1 : w3.cell? ⟨g2, 1, none⟩ = some (.string pa) := X3.cell 1
  have L3 := Blk.new w3 30 #[.int .i64 128, .string pa]
  have b4 : Below w3.heap.size w3 (w3.alloc (.cells #[.int .i64 128, .string pa] 30)) := (Below.refl _ _).alloc (Nat.le_refl _) _
  have C2 := rdPages_any 128 (a14_ents (e5.keep b4 e5.lt)) a14_small (l := [(128, pa)]) (.ofOwn (own_ofBlk L3 (Nat.zero_le _) (show 1 ≤ maxLen by decide) rfl)) (show 1 ≤ 1000 by decide) (fun p hp => by
    rw [List.mem_singleton] at hp
    subst hp
    show pa.size ≤ _
    rw [HS.out.1]; decide)
  rw [G3.out] at C2
  have C2 := Lib.hid C2
  have X4 := X3.keep b4 X3.lt
  have E4 := e5.keep b4 e5.lt
  have HB4 := Lib.hid (below2 HB3.out b4)
  clear b4 L3 X3 e5 HB3
  go_wp2_with fail
  refine C2.out.mono ?_
  clear C2
  rintro e w5 ⟨⟨g3, rfl, hg3, q3⟩, hb⟩
  have X5 := X4.keep hb X4.lt
  have E5 := E4.keep hb E4.lt
  have HB5 := Lib.hid (below2 HB4.out hb)
  clear hb X4 E4 HB4 c0 c1 hg3
  go_upto_region 4 with fail
  have XC : Hid (∀ W, Below w5.drew.heap.size w5.drew W → W.cell? ⟨g2, 0, none⟩ = some (.int .i64 128) ∧ W.cell? ⟨g2, 1, none⟩ = some (.string pa) ∧ W.cell? ⟨g3, 0, none⟩ = some (.int .i64 150) ∧ W.cell? ⟨g3, 1, none⟩ = some (.string pb)) := fun W hW =>
    ⟨(X5.drew.keep hW X5.lt).cell 0, (X5.drew.keep hW X5.lt).cell 1, (q3.drew.keep hW q3.lt).cell 0, (q3.drew.keep hW q3.lt).cell 1⟩
  have SL : Hid (∀ W : World, (Instr.slice 9 (.string pb) none (some (.int .i64 3)) none).run Try.prog W = .ok (.string ⟨#[98, 99, 0]⟩) W) := fun W => by
    have h := run_slice_string_h (P := Try.prog) (w := W) (t := 9) pb Try.underlying9 .i64 3 (by omega) (by rw [HS.out.2.1]; decide)
    rw [← HS.out.2.2]
    simpa using h
  have ON : Hid (∀ W, Below w5.drew.heap.size w5.drew W → Calls Try.prog 14 #[.slice (some ⟨g, 0, none⟩) 2 2, .int .i64 0] W fun e w' => e = .returned (.agg #[.int .i64 150, .string pb]) ∧ Below W.heap.size W w') := fun W hW => by
    have h := rdOne_any 0 (a14_ents (E5.drew.keep hW E5.lt)) a14_small
    rw [G2.out] at h
    exact h
  have P5 : Hid (∀ W, Below w5.drew.heap.size w5.drew W → IsPgs W (.slice (some ⟨g3, 0, none⟩) 1 1) [(150, pb)]) := fun W hW => .ofOwn (own_ofBlk (q3.drew.keep hW q3.lt) (Nat.zero_le _) (by decide) rfl)
  have S1 : Hid (∀ W, Below w5.drew.heap.size w5.drew W → Calls Try.prog 16 #[.slice (some ⟨g3, 0, none⟩) 1 1, .slice (some ⟨g3, 0, none⟩) 1 1] W fun e w' => e = .returned (.bool true) ∧ Below W.heap.size W w') := fun W hW => rdSame_any (P5.out W hW) (P5.out W hW) true (by rw [decide_eq_true rfl])
  have S2 : Hid (∀ W, Below w5.drew.heap.size w5.drew W → Calls Try.prog 16 #[.slice (some ⟨g3, 0, none⟩) 1 1, .slice none 0 0] W fun e w' => e = .returned (.bool false) ∧ Below W.heap.size W w') := fun W hW => rdSame_any (P5.out W hW) (IsPgs.nil W) false (by rw [decide_eq_false (by simp)])
  have eT : (pb.toList == pb.toList) = true := by simp
  have ET := Lib.hid eT
  clear X5 q3 E5 P5 eT
  refine' wp_region_conf 42 (.is _ :: .is _ :: .is _ :: .is _ :: .is _ :: .is _ :: .is _ :: .is _ :: .is _ :: .is _ :: .is _ :: .is _ :: .is _ :: .is _ :: .is _ :: .is _ :: .is _ :: .is _ :: .is _ :: .is _ :: .is _ :: .is _ :: .is _ :: .is _ :: .is _ :: .is _ :: .is _ :: .is _ :: .is _ :: .is _ :: .is _ :: .is _ :: .is _ :: .is _ :: .is _ :: .is _ :: .is _ :: .is _ :: .is _ :: .is _ :: .is _ :: .is _ :: []) (by kernel_rfl) (by kernel_rfl) (by kernel_rfl) (by kernel_rfl) rfl ?main
  case main =>
    iterate 20 (
      apply obs_step
      · rfl
      · intro w9 hE9 hk9
        obtain ⟨c0, c1, f0, f1⟩ := XC.out w9 hE9
        clear hk9 hE9
        as_aux_lemma =>
          go_wp2
          refine post_eq ?_ (Below.refl _ _)
          simp only [Act.put, List.setIfInBounds_toArray, List.set_cons_zero, List.set_cons_succ]
          try rfl
      · simp only [Act.put, List.setIfInBounds_toArray, List.set_cons_zero, List.set_cons_succ]
        rfl)
    iterate 1 (
      apply obs_step
      · rfl
      · intro w9 hE9 hk9
        obtain ⟨c0, c1, f0, f1⟩ := XC.out w9 hE9
        have hsl := SL.out
        clear hk9 hE9
        as_aux_lemma =>
          go_wp2
          refine post_eq ?_ (Below.refl _ _)
          simp only [Act.put, List.setIfInBounds_toArray, List.set_cons_zero, List.set_cons_succ]
          try rfl
      · simp only [Act.put, List.setIfInBounds_toArray, List.set_cons_zero, List.set_cons_succ]
        rfl)
    iterate 7 (
      apply obs_step
      · rfl
      · intro w9 hE9 hk9
        obtain ⟨c0, c1, f0, f1⟩ := XC.out w9 hE9
        clear hk9 hE9
        as_aux_lemma =>
          go_wp2
          refine post_eq ?_ (Below.refl _ _)
          simp only [Act.put, List.setIfInBounds_toArray, List.set_cons_zero, List.set_cons_succ]
          try rfl
      · simp only [Act.put, List.setIfInBounds_toArray, List.set_cons_zero, List.set_cons_succ]
        rfl)
    iterate 1 (
      apply obs_step
      · rfl
      · intro w9 hE9 hk9
        have AP9 := ON.out w9 hE9
        clear hk9 hE9
        as_aux_lemma =>
          go_wp2_with fail
          refine (AP9.mono ?_)
          rintro e w10 ⟨rfl, hb10⟩
          go_wp2
          refine post_eq ?_ hb10
          simp only [Act.put, List.setIfInBounds_toArray, List.set_cons_zero, List.set_cons_succ]
          try rfl
      · simp only [Act.put, List.setIfInBounds_toArray, List.set_cons_zero, List.set_cons_succ]
        rfl)
    iterate 1 (
      apply obs_step
      · rfl
      · intro w9 hE9 hk9
        have eT := ET.out
        clear hk9 hE9
        as_aux_lemma =>
          go_wp2_with (refine wp_page_eql _ _ _ rfl rfl _ _ _ _ rfl rfl ?_)
          refine post_eq ?_ (Below.refl _ _)
          simp only [Act.put, List.setIfInBounds_toArray, List.set_cons_zero, List.set_cons_succ]
          try rfl
      · simp only [Act.put, List.setIfInBounds_toArray, List.set_cons_zero, List.set_cons_succ]
        rfl)
    iterate 4 (
      apply obs_step
      · rfl
      · intro w9 hE9 hk9
        clear hk9 hE9
        as_aux_lemma =>
          go_wp2
          refine post_eq ?_ (Below.refl _ _)
          simp only [Act.put, List.setIfInBounds_toArray, List.set_cons_zero, List.set_cons_succ]
          try rfl
      · simp only [Act.put, List.setIfInBounds_toArray, List.set_cons_zero, List.set_cons_succ]
        rfl)
    iterate 1 (
      apply obs_step
      · rfl
      · intro w9 hE9 hk9
        have AP9 := S1.out w9 hE9
        clear hk9 hE9
        as_aux_lemma =>
          go_wp2_with fail
          refine (AP9.mono ?_)
          rintro e w10 ⟨rfl, hb10⟩
          go_wp2
          refine post_eq ?_ hb10
          simp only [Act.put, List.setIfInBounds_toArray, List.set_cons_zero, List.set_cons_succ]
          try rfl
      · simp only [Act.put, List.setIfInBounds_toArray, List.set_cons_zero, List.set_cons_succ]
        rfl)
    iterate 3 (
      apply obs_step
      · rfl
      · intro w9 hE9 hk9
        clear hk9 hE9
        as_aux_lemma =>
          go_wp2
          refine post_eq ?_ (Below.refl _ _)
          simp only [Act.put, List.setIfInBounds_toArray, List.set_cons_zero, List.set_cons_succ]
          try rfl
      · simp only [Act.put, List.setIfInBounds_toArray, List.set_cons_zero, List.set_cons_succ]
        rfl)
    iterate 1 (
      apply obs_step
      · rfl
      · intro w9 hE9 hk9
        have AP9 := S2.out w9 hE9
        clear hk9 hE9
        as_aux_lemma =>
          go_wp2_with fail
          refine (AP9.mono ?_)
          rintro e w10 ⟨rfl, hb10⟩
          go_wp2
          refine post_eq ?_ hb10
          simp only [Act.put, List.setIfInBounds_toArray, List.set_cons_zero, List.set_cons_succ]
          try rfl
      · simp only [Act.put, List.setIfInBounds_toArray, List.set_cons_zero, List.set_cons_succ]
        rfl)
    iterate 3 (
      apply obs_step
      · rfl
      · intro w9 hE9 hk9
        clear hk9 hE9
        as_aux_lemma =>
          go_wp2
          refine post_eq ?_ (Below.refl _ _)
          simp only [Act.put, List.setIfInBounds_toArray, List.set_cons_zero, List.set_cons_succ]
          try rfl
      · simp only [Act.put, List.setIfInBounds_toArray, List.set_cons_zero, List.set_cons_succ]
        rfl)
    refine obs_end fun w9 hE9 _ => ?_
    have hB9 := HB5.out.drew.trans (hE9.mono HB5.out.size)
    clear hE9 XC SL ON S1 S2
    have HB9 := Lib.hid hB9
    clear hB9
    go_wp2
    go_ret
    exact ⟨rfl, HB9.out⟩
end
end Go.Proofs.Ytkodnjefdophmaa
