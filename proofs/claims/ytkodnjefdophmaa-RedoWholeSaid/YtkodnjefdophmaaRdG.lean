/- Package redo: copied (a list of the same pages that shares no memory with it). -/
import Derived.Test.YtkodnjefdophmaaRdE
import Derived.Test.YtkodnjefdophmaaClone
namespace Go.Proofs.Ytkodnjefdophmaa
open Go.RowKit

section
variable {P : Program}
/-- copy, at elements of c cells, into a row that is known whole: all of it is written. -/
theorem run_copy_wide (w : World) (dT sT ty elem : TypeId) (c g n : Nat) (a : Addr) (sCap : Nat) (cur : Array Value) (t : TypeId) (cs : List Value)
    (hu : P.underlying dT = some (.slice elem)) (hs : (P.info? elem).map (·.size) = some c)
    (hg : Blk w g t cur) (hn : cs.length = n * c) (hsrc : ∀ j v, cs[j]? = some v → w.cell? (a.add j) = some v) (hfit : cur.size = cs.length) (h1 : ∀ v ∈ cs, v.oneCell' = true) :
    (Builtin.copy_ #[dT, sT] ty #[.slice (some ⟨g, 0, none⟩) n n, .slice (some a) n sCap]).run P w = .ok (goInt n) (w.setRow g cs.toArray) := by
  have hl := run_loadCells_list (P := P) w a cs hsrc
  have hst := run_storeCells_at P g 0 t cs 0 cur w hg (by omega) h1
  rw [List.take_zero, List.nil_append, Nat.zero_add, List.drop_of_length_le (by rw [Array.length_toList]; omega), List.append_nil] at hst
  cases hq : P.info? elem with
  | none => simp [hq] at hs
  | some i =>
    have hi : i.size = c := by simpa [hq] using hs
    have hmin : Nat.min n n = n := Nat.min_self n
    simp [Builtin.copy_, run_underlying hu, Builtin.lenOf, Builtin.firstCells, sizeOf, typeInfo, hq, hi, hmin, ← hn, hl, hst]
theorem run_copy_wide_none (w : World) (dT sT ty elem : TypeId) (c : Nat) (d a : Option Addr) (dCap sCap : Nat) (hu : P.underlying dT = some (.slice elem)) (hs : (P.info? elem).map (·.size) = some c) :
    (Builtin.copy_ #[dT, sT] ty #[.slice d 0 dCap, .slice a 0 sCap]).run P w = .ok (goInt 0) w := by
  cases hq : P.info? elem with
  | none => simp [hq] at hs
  | some i =>
    have hl : ∀ (x : Addr), (loadCells x 0).run P w = .ok #[] w := fun x => by simpa using run_loadCells_list (P := P) w x [] (by simp)
    cases d <;> cases a <;> simp [Builtin.copy_, run_underlying hu, Builtin.lenOf, Builtin.firstCells, sizeOf, typeInfo, hq, storeCells, hl]
end
theorem pgV_one (l : List Hs.Pge) : ∀ v ∈ pgV l, v.oneCell' = true := fun v hv => by
  obtain ⟨p, _, hp⟩ := List.mem_flatMap.1 hv
  simp only [pgCells, List.mem_cons, List.not_mem_nil, or_false] at hp
  rcases hp with rfl | rfl <;> rfl
theorem infoPg : (Try.prog.info? 30).map (fun i => (i.zero, i.size, i.bytes)) = some (some (.agg #[.int .i64 0, .string ⟨#[]⟩]), 2, 24) := by kernel_rfl
theorem infoPg2 : (Try.prog.info? 30).map (·.size) = some 2 := by kernel_rfl
theorem copy_pages (w : World) (g : Nat) (cur : Array Value) (v : Value) (l : List Hs.Pge) (hv : IsPgs w v l) (hg : Blk w g 30 cur) (hc : cur.size = l.length * 2) :
    (Builtin.copy_ #[23, 23] 3 #[.slice (some ⟨g, 0, none⟩) l.length l.length, v]).run Try.prog w = .ok (.int .i64 l.length) (w.setRow g (pgV l).toArray) := by
  by_cases hl : 0 < l.length
  · obtain ⟨b, off, cap, rfl, _, _, _, hcell⟩ := Elems.cases hv (pgV_ne hl)
    exact run_copy_wide w _ _ _ _ 2 g l.length ⟨b, off, none⟩ cap cur _ (pgV l) Try.underlying23 infoPg2 hg (pgV_len l) (fun j x hx => by
      rw [show ((⟨b, off, none⟩ : Addr).add j) = ⟨b, off + j, none⟩ from by unfold Addr.add; split <;> simp_all]
      exact hcell j x hx) (by rw [hc, pgV_len]) (pgV_one l)
  · obtain rfl : l = [] := List.eq_nil_of_length_eq_zero (by omega)
    obtain ⟨a, cap, rfl⟩ := hv.form
    have e : cur = #[] := Array.eq_empty_of_size_eq_zero (by simpa using hc)
    subst e
    have h2 := run_copy_wide_none (P := Try.prog) w 23 23 3 _ 2 (some ⟨g, 0, none⟩) a 0 cap Try.underlying23 infoPg2
    have e2 : w.setRow g (pgV []).toArray = w := setRow_self w g #[] _ (0, 0) hg
    rw [e2]
    exact h2
theorem mkPages (c : Nat) (hc : c ≤ 1000) (W : World) : ∃ M : Array Value, M.size = c * 2 ∧ (Instr.makeSlice 23 (.int .i64 c) (.int .i64 c)).run Try.prog W = .ok (.slice (some ⟨W.heap.size, 0, none⟩) c c) (W.alloc (.cells M 30)) := by
  obtain ⟨i, hi, he⟩ := Option.map_eq_some_iff.1 infoPg
  simp only [Prod.mk.injEq] at he
  obtain ⟨hz0, hz1, hz2⟩ := he
  have h := run_make (P := Try.prog) W 23 30 i _ Try.underlying23 hi hz0 .i64 .i64 c c (by omega) (by omega) (by rw [hz2]; omega) (by omega)
  refine ⟨_, ?_, by simpa using h⟩
  rw [size_madeCells, hz1]
theorem Blk.same {w : World} {g t : Nat} {cs : Array Value} (h : Blk w g t cs) (i : Nat) (v : Value) (hv : cs[i]? = some v) : Blk (w.setCell ⟨g, i, none⟩ v) g t cs := by
  have := h.set i v
  have e : cs.setIfInBounds i v = cs := by
    refine Array.ext_getElem? fun j => ?_
    rw [Array.getElem?_setIfInBounds]
    by_cases hj : i = j
    · subst hj
      obtain ⟨hlt, _⟩ := Array.getElem?_eq_some_iff.1 hv
      rw [if_pos rfl, if_pos hlt, hv]
    · rw [if_neg hj]
  rwa [e] at this
theorem own_ofBlk {w : World} {B g t n c : Nat} {cs : Array Value} (h : Blk w g t cs) (hB : B ≤ g) (hn : n ≤ maxLen) (hs : cs.size = n * c) : w.ownsRow B t c (.slice (some ⟨g, 0, none⟩) n n) n cs.toList :=
  ⟨by rw [Array.length_toList]; exact hs, .inr ⟨g, n, cs, rfl, hB, h, Nat.le_refl _, hn, hs, List.take_of_length_le (by rw [Array.length_toList, hs]; exact Nat.le_refl _)⟩⟩

section
set_option maxRecDepth 100000
set_option maxHeartbeats 8000000
theorem rdCopied_any {w : World} {v : Value} {l : List Hs.Pge} (hv : IsPgs w v l) (hn : l.length ≤ 1000) (hz : ∀ p ∈ l, p.2.size ≤ 100000) :
    Calls Try.prog 21 #[v] w fun e w' => (∃ g, e = .returned (.slice (some ⟨g, 0, none⟩) l.length l.length) ∧ w.heap.size ≤ g ∧ Blk w' g 30 (pgV l).toArray) ∧ Below w.heap.size w w' := by
  obtain ⟨M, hM, hmk⟩ := mkPages l.length hn w
  have hnew := Blk.new w 30 M
  have hcp := copy_pages (w.alloc (.cells M 30)) w.heap.size M v l (hv.keep ((Below.refl _ _).alloc (Nat.le_refl _) _)) hnew hM
  have hrow := hnew.setRow (pgV l).toArray
  have hb := below_setRow (g := w.heap.size) ((Below.refl w.heap.size w).alloc (Nat.le_refl _) (.cells M 30)) (Nat.le_refl _) (pgV l).toArray
  have HZ := Lib.hid hz
  have HB := Lib.hid hb
  have HR := Lib.hid hrow
  obtain ⟨va, vc, rfl⟩ := hv.form
  clear hv hz hM hnew hb hrow
  go_enter Try.func21, Try.ntmps21
  go_wp2_with fail
  generalize (w.alloc _).setRow _ _ = w1 at *
  go_loopw [13] (fun vk wr => ∃ k : Nat, vk = .int .i64 k ∧ k ≤ l.length ∧ Below w.heap.size w wr ∧ Blk wr w.heap.size 30 (pgV l).toArray) (fun vk _ => l.length - (intOf vk).toNat)
  case atStart => exact ⟨0, rfl, Nat.zero_le _, HB.out, HR.out⟩
  case round =>
    obtain ⟨k, rfl, hk, hb, hr⟩ := hrel
    clear HB HR
    have HB := Lib.hid hb
    have HR := Lib.hid hr
    by_cases hlt : k < l.length
    · obtain ⟨e0, e1⟩ := pgV_at l k hlt
      have c0 : wr.cell? ⟨w.heap.size, k * 2, none⟩ = some (.int .i64 l[k].1) := (hr.cell (k * 2)).trans (by rw [List.getElem?_toArray]; exact e0)
      have c1 : wr.cell? ⟨w.heap.size, k * 2 + 1, none⟩ = some (.string l[k].2) := (hr.cell (k * 2 + 1)).trans (by rw [List.getElem?_toArray]; exact e1)
      have HE := Lib.hid e1
      have C := Lib.hid (fun W => cloneS_any l[k].2 W (by have := HZ.out _ (List.getElem_mem hlt); omega))
      clear hb hr e0 e1
      generalize l[k].2 = d at *
      go_wp2_with fail
      refine (C.out _).mono ?_
      rintro e w2 ⟨rfl, hb⟩
      have R2 := HR.out.keep hb HR.out.lt
      have f1 := R2.frozen (k * 2 + 1)
      have k1 : w2.cell? ⟨w.heap.size, k * 2 + 1, none⟩ = some (.string d) := (R2.cell (k * 2 + 1)).trans (by rw [List.getElem?_toArray]; exact HE.out)
      have R3 := Lib.hid (R2.same (k * 2 + 1) (.string d) (by rw [List.getElem?_toArray]; exact HE.out))
      have HB3 := Lib.hid ((below2 HB.out hb).setCell (p := ⟨w.heap.size, k * 2 + 1, none⟩) (Nat.le_refl _) (.string d))
      clear hb C c0 c1 R2 HR HB
      go_wp2
      exact ⟨⟨k + 1, by go_num, by omega, HB3.out, R3.out⟩, by simp [intOf]; omega⟩
    · obtain rfl : k = l.length := by omega
      clear hb hr
      go_wp2
      go_ret
      exact ⟨⟨_, rfl, Nat.le_refl _, HR.out⟩, HB.out⟩
end
end Go.Proofs.Ytkodnjefdophmaa
