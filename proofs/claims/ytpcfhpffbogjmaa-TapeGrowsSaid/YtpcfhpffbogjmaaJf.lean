/- Texts that belong together, joined: TaB, TaC, TaD, TaE. -/
import Derived.Test.YtpcfhpffbogjmaaCopyW
import Derived.Test.YtpcfhpffbogjmaaTaA
import Derived.Test.YtpcfhpffbogjmaaRegionY
import Derived.Test.YtpcfhpffbogjmaaJd
import Derived.Test.YtpcfhpffbogjmaaClone
import Derived.Test.YtpcfhpffbogjmaaJe
import Derived.Test.YtpcfhpffbogjmaaAppS
import Derived.Test.YtpcfhpffbogjmaaRegionF
/- Package tape: copied (a list of the same records that shares no memory with it). -/
namespace Go.Proofs.Ytpcfhpffbogjmaa
open Go.RowKit

def Qe.rows (x : Qe) (vt vp : Value) : Qe := ⟨x.at_, x.r, vt, vp⟩
theorem entsV_rows : ∀ (q : List Qe) (j : Nat) (h : j < q.length) (vt vp : Value), ((entsV q).set (j * 12 + 10) vt).set (j * 12 + 11) vp = entsV (q.set j (q[j].rows vt vp))
  | [], j, h, _, _ => by simp at h
  | x :: q, 0, _, vt, vp => rfl
  | x :: q, j + 1, h, vt, vp => by
    show ((x.cells ++ entsV q).set ((j + 1) * 12 + 10) vt).set ((j + 1) * 12 + 11) vp = x.cells ++ entsV (q.set j ((q[j]'(by simpa using h)).rows vt vp))
    rw [← entsV_rows q j (by simpa using h) vt vp, List.set_append_right _ _ (by rw [Qe.cells_len]; omega), List.set_append_right _ _ (by rw [Qe.cells_len]; omega), Qe.cells_len, show (j + 1) * 12 + 10 - 12 = j * 12 + 10 by omega, show (j + 1) * 12 + 11 - 12 = j * 12 + 11 by omega]
theorem entsV_one (q : List Qe) (h : ∀ x ∈ q, ∃ w, Lists w x.r x.vt x.vp) : ∀ v ∈ entsV q, v.oneCell' = true := fun v hv => by
  obtain ⟨x, hx, hm⟩ := List.mem_flatMap.1 hv
  obtain ⟨w, hl⟩ := h x hx
  unfold Qe.cells at hm
  rcases List.mem_cons.1 hm with rfl | hm
  · rfl
  · have := hl.one
    rw [Array.all_eq_true'] at this
    exact this v (by simpa using hm)
theorem ta_info : (Try.prog.info? 58).map (fun i => (i.zero, i.size, i.bytes)) = some (some (.agg #[.int .i64 0, .int .i64 0, .int .i64 0, .int .i64 0, .int .i64 0, .int .i64 0, .int .i64 0, .int .i64 0, .string ⟨#[]⟩, .string ⟨#[]⟩, .slice none 0 0, .slice none 0 0]), 12, 144) := by kernel_rfl
theorem ta_info1 : (Try.prog.info? 58).map (·.size) = some 12 := by kernel_rfl
theorem taMk (c : Nat) (hc : c ≤ 100000000) (W : World) : ∃ M : Array Value, M.size = c * 12 ∧ (Instr.makeSlice 26 (.int .i64 c) (.int .i64 c)).run Try.prog W = .ok (.slice (some ⟨W.heap.size, 0, none⟩) c c) (W.alloc (.cells M 58)) := by
  obtain ⟨i, hi, he⟩ := Option.map_eq_some_iff.1 ta_info
  simp only [Prod.mk.injEq] at he
  obtain ⟨hz0, hz1, hz2⟩ := he
  have h := run_make (P := Try.prog) W 26 58 i _ Try.underlying26 hi hz0 .i64 .i64 c c (by omega) (by omega) (by rw [hz2]; omega) (by omega)
  refine ⟨_, ?_, by simpa using h⟩
  rw [size_madeCells, hz1]
/-- Entries that one reads: cells, and each record's rows. -/
structure SrcE (w : World) (v : Value) (q : List Qe) : Prop where
  cells : Elems w v q.length (entsV q)
  lists : ∀ x ∈ q, Lists w x.r x.vt x.vp
theorem OwnE.src {w : World} {B : Nat} {v : Value} {q : List Qe} (h : OwnE w B v q) : SrcE w v q := ⟨Elems.ofOwn h.own, h.lists⟩
theorem SrcE.keep {w w' : World} {v : Value} {q : List Qe} (h : SrcE w v q) (hb : Below w.heap.size w w') : SrcE w' v q := ⟨h.cells.keep hb, fun x hx => (h.lists x hx).keep hb⟩
theorem entsV_ne {q : List Qe} (h : 0 < q.length) : entsV q ≠ [] := fun e => by
  have := entsV_len q
  rw [e] at this
  simp at this
  omega
theorem taCopy (w : World) (g : Nat) (cur : Array Value) (v : Value) (q : List Qe) (hv : SrcE w v q) (hg : Blk w g 58 cur) (hc : cur.size = q.length * 12) :
    (Builtin.copy_ #[26, 26] 3 #[.slice (some ⟨g, 0, none⟩) q.length q.length, v]).run Try.prog w = .ok (.int .i64 q.length) (w.setRow g (entsV q).toArray) := by
  by_cases hl : 0 < q.length
  · obtain ⟨b, off, cap, rfl, _, _, _, hcell⟩ := Elems.cases hv.cells (entsV_ne hl)
    exact run_copy_wide w _ _ _ _ 12 g q.length ⟨b, off, none⟩ cap cur _ (entsV q) Try.underlying26 ta_info1 hg (entsV_len q) (fun j x hx => by
      rw [show ((⟨b, off, none⟩ : Addr).add j) = ⟨b, off + j, none⟩ from by unfold Addr.add; split <;> simp_all]
      exact hcell j x hx) (by rw [hc, entsV_len]) (entsV_one q fun x hx => ⟨w, hv.lists x hx⟩)
  · obtain rfl : q = [] := List.eq_nil_of_length_eq_zero (by omega)
    obtain ⟨a, cap, rfl⟩ := hv.cells.form
    have e : cur = #[] := Array.eq_empty_of_size_eq_zero (by simpa using hc)
    subst e
    have h2 := run_copy_wide_none (P := Try.prog) w 26 26 3 _ 12 (some ⟨g, 0, none⟩) a 0 cap Try.underlying26 ta_info1
    have e2 : w.setRow g (entsV []).toArray = w := setRow_self w g #[] _ (0, 0) hg
    rw [e2]
    exact h2

/-- Rows that aren't empty lie behind a time. -/
def FreshX (B : Nat) (x : Qe) : Prop := (rows3 x.r.txns ≠ [] → ∀ b, x.vt.ownBlock = some b → B ≤ b) ∧ (rows2 x.r.pages ≠ [] → ∀ b, x.vp.ownBlock = some b → B ≤ b)
/-- A copy of entries, the rows of the first k of which are copied, too. -/
structure CopyAt (w wr : World) (g : Nat) (q qk : List Qe) (k : Nat) : Prop where
  below : Below w.heap.size w wr
  blk : Blk wr g 58 (entsV qk).toArray
  len : qk.length = q.length
  ents : qk.map Qe.ent = q.map Qe.ent
  lists : ∀ x ∈ qk, Lists wr x.r x.vt x.vp
  apart : ∀ x ∈ qk, (rows3 x.r.txns ≠ [] → x.vt.ownBlock ≠ some g) ∧ (rows2 x.r.pages ≠ [] → x.vp.ownBlock ≠ some g)
  fresh : ∀ j (hj : j < qk.length), j < k → FreshX w.heap.size qk[j]
namespace CopyAt
variable {w wr w' : World} {g : Nat} {q qk : List Qe} {k : Nat}
theorem more (h : CopyAt w wr g q qk k) (hb : Below wr.heap.size wr w') : CopyAt w w' g q qk k :=
  ⟨below2 h.below hb, h.blk.keep hb h.blk.lt, h.len, h.ents, fun x hx => (h.lists x hx).keep hb, h.apart, h.fresh⟩
theorem same_at {qk q : List Qe} (he : qk.map Qe.ent = q.map Qe.ent) {x : Qe} {k : Nat} (hk : k < qk.length) (hx : x.ent = qk[k].ent) : (qk.set k x).map Qe.ent = q.map Qe.ent := by
  rw [← he, List.map_set, hx]
  have : (qk.map Qe.ent)[k]'(by simpa using hk) = qk[k].ent := by simp
  rw [← this, List.set_getElem_self]
/-- The k-th entry has rows of its own. -/
theorem next (h : CopyAt w wr g q qk k) (hk : k < qk.length) {vt vp : Value} (hs : Spare (· = g) wr w') (hB : Blk w' g 58 (((entsV qk).set (k * 12 + 10) vt).set (k * 12 + 11) vp).toArray)
    (hl : Lists w' qk[k].r vt vp) (ht : ∀ b, vt.ownBlock = some b → w.heap.size ≤ b ∧ b ≠ g) (hp : ∀ b, vp.ownBlock = some b → w.heap.size ≤ b ∧ b ≠ g) (hg : w.heap.size ≤ g) : CopyAt w w' g q (qk.set k (qk[k].rows vt vp)) (k + 1) := by
  have ho : Only (· = g) wr w' := ⟨hs.os, hs.tape, hs.output, hs.size, hs.block⟩
  have hap : ∀ x ∈ qk.set k (qk[k].rows vt vp), (rows3 x.r.txns ≠ [] → x.vt.ownBlock ≠ some g) ∧ (rows2 x.r.pages ≠ [] → x.vp.ownBlock ≠ some g) := fun x hx => by
    rcases List.mem_or_eq_of_mem_set hx with hx | rfl
    · exact h.apart x hx
    · exact ⟨fun _ e => (ht g e).2 rfl, fun _ e => (hp g e).2 rfl⟩
  refine ⟨hs.below h.below (fun b e => by subst e; exact hg) h.below.size, ?_, by rw [List.length_set]; exact h.len, same_at h.ents hk rfl, fun x hx => ?_, hap, fun j hj hjk => ?_⟩
  · rw [entsV_rows qk k hk] at hB
    exact hB
  · rcases List.mem_or_eq_of_mem_set hx with hx2 | rfl
    · exact (h.lists x hx2).keepA ho (fun hr b hb e => by subst e; exact (hap x hx).1 hr hb) (fun hr b hb e => by subst e; exact (hap x hx).2 hr hb)
    · exact hl
  · by_cases e : j = k
    · subst e
      rw [List.getElem_set_self]
      exact ⟨fun _ b hb => (ht b hb).1, fun _ b hb => (hp b hb).1⟩
    · rw [List.getElem_set_ne (Ne.symm e)]
      exact h.fresh j (by simpa using hj) (by omega)
end CopyAt
end Go.Proofs.Ytpcfhpffbogjmaa

/- Package tape: copied, walked. -/
namespace Go.Proofs.Ytpcfhpffbogjmaa
open Go.RowKit

set_option maxRecDepth 100000 in
set_option maxHeartbeats 8000000 in
theorem taCopied_any {w : World} {v : Value} {q : List Qe} (hv : SrcE w v q) (hn : q.length ≤ 100000000) (hf : ∀ x ∈ q, Fit x.r) :
    Calls Try.prog 25 #[v] w (EntsOut w (q.map Qe.ent)) := by
  obtain ⟨M, hM, hmk⟩ := taMk q.length hn w
  have hnew := Blk.new w 58 M
  have hb0 := (Below.refl w.heap.size w).alloc (Nat.le_refl _) (.cells M 58)
  have hcp := taCopy (w.alloc (.cells M 58)) w.heap.size M v q (hv.keep hb0) hnew hM
  have hb := below_setRow (g := w.heap.size) hb0 (Nat.le_refl _) (entsV q).toArray
  have START : Hid (CopyAt w ((w.alloc (.cells M 58)).setRow w.heap.size (entsV q).toArray) w.heap.size q q 0) := by
    refine ⟨hb, hnew.setRow _, rfl, rfl, fun x hx => (hv.lists x hx).keep hb, fun x hx => ⟨fun hr e => ?_, fun hr e => ?_⟩, fun j _ h => by omega⟩
    · have := (hv.lists x hx).t.blt hr _ e; omega
    · have := (hv.lists x hx).p.blt hr _ e; omega
  have HF := Lib.hid hf
  obtain ⟨va, vc, rfl⟩ := hv.cells.form
  clear hv hf hM hnew hb hb0
  go_enter Try.func25, Try.ntmps25
  go_wp2_with fail
  generalize (w.alloc _).setRow _ _ = w1 at *
  go_loopw [14, 4, 5] (fun vk v4 v5 wr => ∃ (k : Nat) (qk : List Qe), vk = .int .i64 k ∧ k ≤ q.length ∧ CopyAt w wr w.heap.size q qk k) (fun vk _ _ _ => q.length - (intOf vk).toNat)
  case atStart => exact ⟨0, q, rfl, Nat.zero_le _, START.out⟩
  case round =>
    obtain ⟨k, qk, rfl, hk, hst⟩ := hrel
    clear START
    have ST := Lib.hid hst
    clear hst
    by_cases hlt : k < q.length
    · go_upto_region 7 with fail
      have hk2 : k < qk.length := by rw [ST.out.len]; exact hlt
      obtain ⟨x, hx⟩ : ∃ x, qk[k] = x := ⟨_, rfl⟩
      have hat : ∀ i, i < 12 → (entsV qk)[k * 12 + i]? = x.cells[i]? := fun i hi => by rw [← hx]; exact entsV_at qk k hk2 i hi
      have hlx : Lists wr x.r x.vt x.vp := by rw [← hx]; exact ST.out.lists _ (List.getElem_mem hk2)
      have hfx : Fit x.r := by
        have e : (qk.map Qe.ent)[k]'(by simpa using hk2) = (q.map Qe.ent)[k]'(by simpa using hlt) := by simp only [ST.out.ents]
        simp only [List.getElem_map] at e
        have e2 : qk[k].r = q[k].r := congrArg Prod.snd e
        rw [← hx, e2]
        exact HF.out _ (List.getElem_mem hlt)
      have C : Hid (∀ W, Below wr.heap.size wr W → W.cell? ⟨w.heap.size, k * 12 + 1 + 7, none⟩ = some (.string x.r.before) ∧ W.cell? ⟨w.heap.size, k * 12 + 1 + 8, none⟩ = some (.string x.r.after) ∧ Blk W w.heap.size 58 (entsV qk).toArray) := fun W hW => by
        have B := ST.out.blk.keep hW ST.out.blk.lt
        exact ⟨(B.cell _).trans (by rw [List.getElem?_toArray]; exact hat 8 (by omega)), (B.cell _).trans (by rw [List.getElem?_toArray]; exact hat 9 (by omega)), B⟩
      have D : Hid (∀ W, Blk W w.heap.size 58 (entsV qk).toArray → W.cell? ⟨w.heap.size, k * 12 + 1 + 9, none⟩ = some x.vt ∧ W.cell? ⟨w.heap.size, k * 12 + 1 + 10, none⟩ = some x.vp) := fun W B => by
        exact ⟨(B.cell _).trans (by rw [List.getElem?_toArray]; exact hat 10 (by omega)), (B.cell _).trans (by rw [List.getElem?_toArray]; exact hat 11 (by omega))⟩
      have S8 : Hid ((entsV qk).toArray[k * 12 + 1 + 7]? = some (.string x.r.before)) := by rw [Hid, List.getElem?_toArray]; exact hat 8 (by omega)
      have S9 : Hid ((entsV qk).toArray[k * 12 + 1 + 8]? = some (.string x.r.after)) := by rw [Hid, List.getElem?_toArray]; exact hat 9 (by omega)
      have K1 := Lib.hid (fun W => cloneS_any x.r.before W (by have := hfx.before; omega))
      have K2 := Lib.hid (fun W => cloneS_any x.r.after W (by have := hfx.after; omega))
      have L3 := Lib.hid hlx
      have F3 := Lib.hid hfx
      have HX := Lib.hid hx
      clear hat hlx hfx hx
      generalize x.r.before = sb at *
      generalize x.r.after = sa at *
      refine' wp_region_conf 18 (.is _ :: .is _ :: .is _ :: .is _ :: .is _ :: .is _ :: .is _ :: .is _ :: .is _ :: .is _ :: .is _ :: .is _ :: .is _ :: .is _ :: .is undef :: .is _ :: .is _ :: .is undef :: []) (by kernel_rfl) (by kernel_rfl) (by kernel_rfl) (by kernel_rfl) rfl ?main
      case main =>
        iterate 14
          refine obs_is (fun w4 hE4 _ => ?_) ?_
          · obtain ⟨c7, c8, -⟩ := C.out w4 ((Below.refl wr.heap.size wr).drew.trans hE4)
            go_wp2_with (first | (refine (K1.out _).mono ?_; rintro e w5 ⟨rfl, hb5⟩) | (refine (K2.out _).mono ?_; rintro e w5 ⟨rfl, hb5⟩))
            first | exact post_is hb5 | exact post_is (Below.refl _ _)
          simp only [Act.put, List.setIfInBounds_toArray, List.set_cons_zero, List.set_cons_succ]
        refine obs_is (fun w4 hE4 _ => ?_) ?_
        · obtain ⟨c7, -, B4⟩ := C.out w4 ((Below.refl wr.heap.size wr).drew.trans hE4)
          have f4 := B4.frozen (k * 12 + 1 + 7)
          have s4 := Lib.hid (setCell_same B4 _ _ S8.out)
          clear B4
          go_wp2
          exact post_is s4.out
        simp only [Act.put]
        iterate 2
          refine obs_is (fun w4 hE4 _ => ?_) ?_
          · go_wp2
            exact post_is (Below.refl _ _)
          simp only [Act.put, List.setIfInBounds_toArray, List.set_cons_zero, List.set_cons_succ]
        refine obs_is (fun w4 hE4 _ => ?_) ?_
        · obtain ⟨-, c7, B4⟩ := C.out w4 ((Below.refl wr.heap.size wr).drew.trans hE4)
          have f4 := B4.frozen (k * 12 + 1 + 8)
          have s4 := Lib.hid (setCell_same B4 _ _ S9.out)
          clear B4
          go_wp2
          exact post_is s4.out
        simp only [Act.put]
        refine obs_end fun w5 hE5 _ => ?_
        have hb5 := (Below.refl wr.heap.size wr).drew.trans hE5
        have ST5 := Lib.hid (ST.out.more hb5)
        have L5 := Lib.hid (L3.out.keep hb5)
        have B5 := Lib.hid (C.out w5 hb5).2.2
        clear hE5 hb5 ST L3 C S8 S9 K1 K2
        change wpList _ _ _ _ _ _
        go_upto_region 8 with fail
        have hlt5 : w.heap.size < w5.heap.size := B5.out.lt
        obtain ⟨pT, hpT⟩ : ∃ p : Value → World → Prop, p = fun v W => Elems W v x.r.txns.length (rows3 x.r.txns) ∧ ∀ b, v.ownBlock = some b → w5.heap.size ≤ b := ⟨_, rfl⟩
        obtain ⟨pP, hpP⟩ : ∃ p : Value → World → Prop, p = fun v W => Elems W v x.r.pages.length (rows2 x.r.pages) ∧ ∀ b, v.ownBlock = some b → w5.heap.size ≤ b := ⟨_, rfl⟩
        have mT : ∀ v W W', Spare (· = w.heap.size) W W' → pT v W → pT v W' := fun v W W' hs hp => by
          subst hpT
          exact ⟨hp.1.keepS ⟨hs.os, hs.tape, hs.output, hs.size, hs.block⟩ fun _ b hb e => (by have := hp.2 b hb; omega), hp.2⟩
        have mP : ∀ v W W', Spare (· = w.heap.size) W W' → pP v W → pP v W' := fun v W W' hs hp => by
          subst hpP
          exact ⟨hp.1.keepS ⟨hs.os, hs.tape, hs.output, hs.size, hs.block⟩ fun _ b hb e => (by have := hp.2 b hb; omega), hp.2⟩
        have hap := ST5.out.apart x (by rw [← HX.out]; exact List.getElem_mem hk2)
        have KT : Hid (∀ W, Spare (· = w.heap.size) w5.drew W → Calls Try.prog 43 #[x.vt] W fun e W' => ∃ v', e = .returned v' ∧ pT v' W' ∧ Below W.heap.size W W') := fun W hW =>
          (cloneRows3 x.r.txns x.vt W (L5.out.t.keepS ⟨hW.os, hW.tape, hW.output, hW.size, hW.block⟩ fun hr b hb e => (by subst e; exact hap.1 hr hb)) (by have := F3.out.txns; omega)).mono fun _ _ ⟨v', he, h1, h2, h3⟩ => ⟨v', he, by subst hpT; exact ⟨h1, fun b hb => Nat.le_trans hW.size (h2 b hb)⟩, h3⟩
        have KP : Hid (∀ W, Spare (· = w.heap.size) w5.drew W → Calls Try.prog 44 #[x.vp] W fun e W' => ∃ v', e = .returned v' ∧ pP v' W' ∧ Below W.heap.size W W') := fun W hW =>
          (cloneRows2 x.r.pages x.vp W (L5.out.p.keepS ⟨hW.os, hW.tape, hW.output, hW.size, hW.block⟩ fun hr b hb e => (by subst e; exact hap.2 hr hb)) (by have := F3.out.pages; omega)).mono fun _ _ ⟨v', he, h1, h2, h3⟩ => ⟨v', he, by subst hpP; exact ⟨h1, fun b hb => Nat.le_trans hW.size (h2 b hb)⟩, h3⟩
        have MT := Lib.hid mT
        have MP := Lib.hid mP
        have HPT := Lib.hid hpT
        have HPP := Lib.hid hpP
        have X11 : Hid (∀ ct : Value, ((entsV qk).set (k * 12 + 1 + 9) ct).toArray[k * 12 + 1 + 10]? = some x.vp) := fun ct => by
          rw [List.getElem?_toArray, List.getElem?_set_ne (by omega), ← HX.out]
          exact entsV_at qk k hk2 11 (by omega)
        clear hap mT mP hpT hpP F3 L5
        refine' wp_region_stored 17 14 (· = w.heap.size) (fun W => Blk W w.heap.size 58 (entsV qk).toArray) (fun W => ∃ ct, Blk W w.heap.size 58 ((entsV qk).set (k * 12 + 1 + 9) ct).toArray ∧ pT ct W) (.is _ :: .is _ :: .is _ :: .is _ :: .is _ :: .is _ :: .of pT MT.out :: .is _ :: .is _ :: .is _ :: .is _ :: .of pP MP.out :: .is _ :: .is _ :: .is undef :: .is _ :: .is _ :: []) (by kernel_rfl) (by kernel_rfl) (by kernel_rfl) (by kernel_rfl) (by kernel_rfl) rfl B5.out (fun W W' hb h => h.keep hb h.lt) (fun W W' hb ⟨ct, h1, h2⟩ => ⟨ct, h1.keep hb h1.lt, MT.out _ _ _ (.ofBelow hb) h2⟩) ?main8
        case main8 =>
          iterate 5
            refine obsY_is (by rfl) (fun w4 hE4 _ => ?_) ?_
            · go_wp2
              exact postY_is (Below.refl _ _)
            simp only [Act.put, List.setIfInBounds_toArray, List.set_cons_zero, List.set_cons_succ]
          refine obsY_read (by rfl) (by kernel_rfl) (fun w4 hE4 q4 _ => ?_) ?_
          · have c10 : w4.cell? ⟨w.heap.size, k * 12 + 1 + 9, none⟩ = some x.vt := (D.out _ q4).1
            clear q4
            go_wp2
            exact postY_is (Below.refl _ _)
          simp only [Act.put, List.setIfInBounds_toArray, List.set_cons_zero, List.set_cons_succ]
          refine obsY_of (by rfl) (fun w4 hE4 _ => ?_) fun ct => ?_
          · have K4 := Lib.hid (KT.out _ hE4)
            clear hE4
            go_wp2_with fail
            refine K4.out.mono ?_
            rintro e w6 ⟨v', rfl, he, hb6⟩
            go_wp2
            exact postY_of he hb6
          simp only [Act.put, List.setIfInBounds_toArray, List.set_cons_zero, List.set_cons_succ]
          iterate 3
            refine obsY_is (by rfl) (fun w4 hE4 _ => ?_) ?_
            · go_wp2
              exact postY_is (Below.refl _ _)
            simp only [Act.put, List.setIfInBounds_toArray, List.set_cons_zero, List.set_cons_succ]
          refine obsY_read (by rfl) (by kernel_rfl) (fun w4 hE4 q4 _ => ?_) ?_
          · have c10 : w4.cell? ⟨w.heap.size, k * 12 + 1 + 10, none⟩ = some x.vp := (D.out _ q4).2
            clear q4
            go_wp2
            exact postY_is (Below.refl _ _)
          simp only [Act.put, List.setIfInBounds_toArray, List.set_cons_zero, List.set_cons_succ]
          refine obsY_of (by rfl) (fun w4 hE4 _ => ?_) fun cp => ?_
          · have K4 := Lib.hid (KP.out _ hE4)
            clear hE4
            go_wp2_with fail
            refine K4.out.mono ?_
            rintro e w6 ⟨v', rfl, he, hb6⟩
            go_wp2
            exact postY_of he hb6
          simp only [Act.put, List.setIfInBounds_toArray, List.set_cons_zero, List.set_cons_succ]
          iterate 2
            refine obsY_is (by rfl) (fun w4 hE4 _ => ?_) ?_
            · go_wp2
              exact postY_is (Below.refl _ _)
            simp only [Act.put, List.setIfInBounds_toArray, List.set_cons_zero, List.set_cons_succ]
          refine obsY_store (fun w4 hE4 q4 hk4 => ?_) ?_
          · have pct : pT ct w4 := hk4 _ (List.mem_cons_of_mem _ (List.mem_cons_self ..)) (by kernel_rfl)
            have c10 : w4.cell? ⟨w.heap.size, k * 12 + 1 + 9, none⟩ = some x.vt := (D.out _ q4).1
            have f10 := q4.frozen (k * 12 + 1 + 9)
            have n4 : Hid (Blk (w4.setCell ⟨w.heap.size, k * 12 + 1 + 9, none⟩ ct) w.heap.size 58 ((entsV qk).set (k * 12 + 1 + 9) ct).toArray ∧ pT ct (w4.setCell ⟨w.heap.size, k * 12 + 1 + 9, none⟩ ct)) := by
              refine ⟨?_, MT.out _ _ _ (Spare.setCell (S := (· = w.heap.size)) rfl _) pct⟩
              have := q4.set (k * 12 + 1 + 9) ct
              rwa [List.setIfInBounds_toArray] at this
            have fm := pct
            rw [HPT.out] at fm
            obtain ⟨ta, tc, hct⟩ := fm.1.form
            clear q4 hk4 pct hE4 fm
            subst hct
            have hsp : Spare (· = w.heap.size) w4 (w4.setCell ⟨w.heap.size, k * 12 + 1 + 9, none⟩ (.slice ta x.r.txns.length tc)) := Spare.setCell (S := (· = w.heap.size)) rfl _
            go_wp2
            exact postY_stored hsp ⟨_, n4.out⟩
          simp only [Act.put]
          iterate 2
            refine obsY_is (by rfl) (fun w4 hE4 _ => ?_) ?_
            · go_wp2
              exact postY_is (Below.refl _ _)
            simp only [Act.put, List.setIfInBounds_toArray, List.set_cons_zero, List.set_cons_succ]
          refine obsY_end fun w6 hE6 r6 hk6 => ?_
          have pcp : pP cp w6 := hk6 _ (List.mem_cons_self ..)
          obtain ⟨ct2, B6, pct⟩ := r6
          have c11 := (B6.cell (k * 12 + 1 + 10)).trans (X11.out ct2)
          have f11 := B6.frozen (k * 12 + 1 + 10)
          have hsp : Spare (· = w.heap.size) w5 (w6.setCell ⟨w.heap.size, k * 12 + 1 + 10, none⟩ cp) := (Spare.ofBelow (Below.refl _ _).drew).trans (hE6.trans (Spare.setCell (S := (· = w.heap.size)) rfl _))
          have hs2 : Spare (· = w.heap.size) w6 (w6.setCell ⟨w.heap.size, k * 12 + 1 + 10, none⟩ cp) := Spare.setCell (S := (· = w.heap.size)) rfl _
          have p7 := MT.out _ _ _ hs2 pct
          have q7 := MP.out _ _ _ hs2 pcp
          have B7 := B6.set (k * 12 + 1 + 10) cp
          rw [List.setIfInBounds_toArray] at B7
          rw [HPT.out] at p7
          rw [HPP.out] at q7
          have N7 := Lib.hid (ST5.out.next hk2 (vt := ct2) (vp := cp) hsp B7 (by rw [HX.out]; exact ⟨p7.1, q7.1⟩) (fun b hb => by have := p7.2 b hb; omega) (fun b hb => by have := q7.2 b hb; omega) (Nat.le_refl _))
          obtain ⟨ta, tc, hcp⟩ := q7.1.form
          clear hE6 hk6 pcp B6 pct hsp hs2 p7 q7 B7 KT KP MT MP ST5 B5 D X11 HPT HPP
          subst hcp
          change wpList _ _ _ _ _ _
          go_wp2_with fail
          exact ⟨⟨k + 1, _, by go_num, by omega, N7.out⟩, by simp [intOf]; omega⟩
    · obtain rfl : k = q.length := by omega
      go_wp2
      go_ret
      obtain ⟨h1, h2, h3, h4, h5, h6, h7⟩ := ST.out
      refine ⟨_, qk, rfl, h4, ⟨?_, h5, fun x hx b hb => ?_⟩, h1, fun x hx => ?_⟩
      · rw [h3]
        have := own_ofBlk (B := w.heap.size) (n := q.length) (c := 12) h2 (Nat.le_refl _) (by unfold maxLen; omega) (by rw [List.size_toArray, entsV_len, h3])
        exact this
      · have hbg : b = w.heap.size := by simpa [Value.ownBlock] using hb.symm
        subst hbg
        exact h6 x hx
      · obtain ⟨j, hj, rfl⟩ := List.getElem_of_mem hx
        exact h7 j hj (by omega)
end Go.Proofs.Ytpcfhpffbogjmaa

/- Package tape: what a tape is in memory; New, Upto, List, rest. -/
namespace Go.Proofs.Ytpcfhpffbogjmaa
open Go.RowKit

def tpCells (t : Tp) (v : Value) : Array Value := #[.int .i64 ((t.upto : Int) - 1), v]
/-- A tape's blocks. -/
structure TpR (w : World) (F : Foot) (g : Nat) (t : Tp) (v : Value) (q : List Qe) : Prop where
  head : Blk w g 61 (tpCells t v)
  own : OwnE w 0 v q
  ents : q.map Qe.ent = t.l
  fg : F g
  fv : ∀ b, v.ownBlock = some b → F b
  fr : ∀ x ∈ q, (rows3 x.r.txns ≠ [] → ∀ b, x.vt.ownBlock = some b → F b ∧ b ≠ g) ∧ (rows2 x.r.pages ≠ [] → ∀ b, x.vp.ownBlock = some b → F b ∧ b ≠ g)
  lt : ∀ b, F b → b < w.heap.size
/-- A tape, as plain data, that may be. -/
structure Tp.Ok (t : Tp) : Prop where
  one : 1 ≤ t.upto
  um : t.upto ≤ 4294967296
  fit : ∀ x ∈ t.l, Fit x.2
  len : t.l.length ≤ 50000000
def IsTp (w : World) (F : Foot) (g : Nat) (t : Tp) : Prop := t.Ok ∧ ∃ v q, TpR w F g t v q
namespace TpR
variable {w w' : World} {F : Foot} {g : Nat} {t : Tp} {v : Value} {q : List Qe}
theorem only (h : TpR w F g t v q) {S : Nat → Prop} (hb : Only S w w') (hS : ∀ b, F b → ¬ S b) : TpR w' F g t v q :=
  ⟨(hb.block g (h.lt g h.fg) (hS g h.fg)).trans h.head, ⟨own_only h.own.own hb fun b hb2 => hS b (h.fv b hb2), fun x hx => (h.own.lists x hx).keepA hb (fun hr b hb2 => hS b ((h.fr x hx).1 hr b hb2).1) (fun hr b hb2 => hS b ((h.fr x hx).2 hr b hb2).1), h.own.apart⟩, h.ents, h.fg, h.fv, h.fr, fun b hF => Nat.lt_of_lt_of_le (h.lt b hF) hb.size⟩
theorem below (h : TpR w F g t v q) (hb : Below w.heap.size w w') : TpR w' F g t v q :=
  h.only (S := fun b => ¬ b < w.heap.size) ⟨hb.os, hb.tape, hb.output, hb.size, fun b hlt _ => hb.block b hlt⟩ fun b hF hn => hn (h.lt b hF)
theorem cells (h : TpR w F g t v q) : w.cell? ⟨g, 0, none⟩ = some (.int .i64 ((t.upto : Int) - 1)) ∧ w.cell? ⟨g, 1, none⟩ = some v := ⟨h.head.cell 0, h.head.cell 1⟩
theorem vg (h : TpR w F g t v q) : v.ownBlock ≠ some g := own_blk h.own.own h.head (by decide)
end TpR
namespace IsTp
variable {w w' : World} {F : Foot} {g : Nat} {t : Tp}
theorem only (h : IsTp w F g t) {S : Nat → Prop} (hb : Only S w w') (hS : ∀ b, F b → ¬ S b) : IsTp w' F g t := ⟨h.1, h.2.elim fun v h => h.elim fun q r => ⟨v, q, r.only hb hS⟩⟩
theorem below (h : IsTp w F g t) (hb : Below w.heap.size w w') : IsTp w' F g t := ⟨h.1, h.2.elim fun v h => h.elim fun q r => ⟨v, q, r.below hb⟩⟩
theorem lt (h : IsTp w F g t) : ∀ b, F b → b < w.heap.size := h.2.elim fun _ h => h.elim fun _ r => r.lt
end IsTp
theorem Tp.Ok.new : Tp.new.Ok := ⟨Nat.le_refl _, by decide, fun x h => by simp [Tp.new] at h, Nat.zero_le _⟩

section
variable {w : World} {F FL : Foot} {g gl gd : Nat} {t : Tp} {l : Wl}
set_option maxRecDepth 100000 in
set_option maxHeartbeats 2000000 in
theorem tapeNew_any (w : World) : Calls Try.prog 8 #[] w fun e w' => e = .returned (.pointer (some ⟨w.heap.size, 0, none⟩)) ∧ IsTp w' (· = w.heap.size) w.heap.size Tp.new ∧ Below w.heap.size w w' := by
  go_enter Try.func8, Try.ntmps8
  go_wp2
  go_ret
  refine ⟨rfl, ⟨Tp.Ok.new, .slice none 0 0, [], ?_, OwnE.nil _ _, rfl, rfl, fun b hb => by simp [Value.ownBlock] at hb, fun x hx => by simp at hx, fun b hb => by subst hb; simp⟩, (Below.refl _ _).alloc (Nat.le_refl _) _⟩
  exact Blk.new _ _ _
set_option maxRecDepth 100000 in
set_option maxHeartbeats 2000000 in
theorem upto_any (h : IsTp w F g t) : Calls Try.prog 10 #[.pointer (some ⟨g, 0, none⟩)] w fun e w' => e = .returned (.int .i64 t.upto) ∧ w = w' := by
  obtain ⟨ok, v, q, r⟩ := h
  obtain ⟨c0, _⟩ := r.cells
  have h1 : (1 : Int) ≤ t.upto := by have := ok.one; omega
  have h2 : (t.upto : Int) ≤ 4294967296 := by have := ok.um; omega
  clear r ok
  generalize t.upto = x at *
  go_enter Try.func10, Try.ntmps10
  go_wp2
  go_ret
  refine ⟨?_, rfl⟩
  congr 2
theorem upto_nil (w : World) : Calls Try.prog 10 #[.pointer none] w fun e w' => e = .returned (.int .i64 0) ∧ w = w' := by
  go_enter Try.func10, Try.ntmps10
  go_wp2
  go_ret
  exact ⟨rfl, rfl⟩
set_option maxRecDepth 100000 in
set_option maxHeartbeats 2000000 in
theorem tapeList_any (h : IsTp w F g t) : Calls Try.prog 11 #[.pointer (some ⟨g, 0, none⟩)] w (EntsOut w t.l) := by
  obtain ⟨ok, v, q, r⟩ := h
  obtain ⟨_, c1⟩ := r.cells
  have hlen : q.length ≤ 100000000 := by
    have := congrArg List.length r.ents
    rw [List.length_map] at this
    have := ok.len
    omega
  have K := Lib.hid (taCopied_any r.own.src hlen fun x hx => ok.fit x.ent (by rw [← r.ents]; exact List.mem_map.2 ⟨x, hx, rfl⟩))
  rw [r.ents] at K
  obtain ⟨va, vc, hvs⟩ := own_slice r.own.own
  clear r ok hlen
  subst hvs
  go_enter Try.func11, Try.ntmps11
  go_wp2_with fail
  refine K.out.mono ?_
  rintro e w1 ⟨v', q', rfl, hq, ho, hb, hf⟩
  have HR := Lib.hid (And.intro hq (And.intro ho (And.intro hb hf)))
  clear hq ho hb hf K
  go_wp2
  go_ret
  exact ⟨v', q', rfl, HR.out.1, HR.out.2.1, HR.out.2.2.1, HR.out.2.2.2⟩
theorem tapeList_nil (w : World) : Calls Try.prog 11 #[.pointer none] w fun e w' => e = .returned (.slice none 0 0) ∧ w = w' := by
  go_enter Try.func11, Try.ntmps11
  go_wp2
  go_ret
  exact ⟨rfl, rfl⟩
theorem rest_nil (w : World) (v : Option Addr) : Calls Try.prog 21 #[.pointer none, .pointer v] w fun e w' => e = .returned (.tuple #[.slice none 0 0, .int .i64 10]) ∧ w = w' := by
  go_enter Try.func21, Try.ntmps21
  go_wp2
  go_ret2
  exact ⟨rfl, rfl⟩
theorem rest_none (w : World) (g : Nat) : Calls Try.prog 21 #[.pointer (some ⟨g, 0, none⟩), .pointer none] w fun e w' => e = .returned (.tuple #[.slice none 0 0, .int .i64 10]) ∧ w = w' := by
  go_enter Try.func21, Try.ntmps21
  go_wp2
  go_ret2
  exact ⟨rfl, rfl⟩
set_option maxRecDepth 100000 in
set_option maxHeartbeats 2000000 in
theorem rest_state (hT : IsTp w F g t) (hL : IsLog w FL gl gd l) (hlow : t.upto < l.low) : Calls Try.prog 21 #[.pointer (some ⟨g, 0, none⟩), .pointer (some ⟨gl, 0, none⟩)] w fun e w' => e = .returned (.tuple #[.slice none 0 0, .int .i64 11]) ∧ w = w' := by
  have HL := Lib.hid hL
  have HT := Lib.hid hT
  have h1 : ((t.upto : Nat) : Int) < l.low := by omega
  clear hL hT hlow
  go_enter Try.func21, Try.ntmps21
  go_wp2_with fail
  refine (low_any HL.out).mono ?_
  rintro e w1 ⟨rfl, rfl⟩
  go_wp2_with fail
  refine (upto_any HT.out).mono ?_
  rintro e w1 ⟨rfl, rfl⟩
  go_wp2
  go_ret2
  exact ⟨rfl, rfl⟩
set_option maxRecDepth 100000 in
set_option maxHeartbeats 2000000 in
theorem rest_ok (hT : IsTp w F g t) (hL : IsLog w FL gl gd l) (hlow : l.low ≤ t.upto) : Calls Try.prog 21 #[.pointer (some ⟨g, 0, none⟩), .pointer (some ⟨gl, 0, none⟩)] w fun e w' => ∃ v q, e = .returned (.tuple #[v, .int .i64 0]) ∧ q.map Qe.ent = t.behind l ∧ OwnE w' w.heap.size v q ∧ Below w.heap.size w w' ∧ FreshQ w.heap.size q := by
  have HL := Lib.hid hL
  have HT := Lib.hid hT
  have h1 : ¬ ((t.upto : Nat) : Int) < l.low := by omega
  have h2 : ((t.upto : Nat) : Int) ≤ 4294967296 := by have := hT.1.um; omega
  have K := Lib.hid (scan_any hL (((t.upto * 128 : Nat)) : Int) (by simp [Lit.wf, IntKind.min, IntKind.max, IntKind.signed, IntKind.bits]; omega))
  have e1 : ((t.upto * 128 : Nat) : Int) = (t.upto : Int) * 128 := by omega
  unfold Tp.behind
  rw [e1] at K ⊢
  clear hL hT hlow e1
  go_enter Try.func21, Try.ntmps21
  go_wp2_with fail
  refine (low_any HL.out).mono ?_
  rintro e w1 ⟨rfl, rfl⟩
  go_wp2_with fail
  refine (upto_any HT.out).mono ?_
  rintro e w1 ⟨rfl, rfl⟩
  go_wp2_with fail
  refine (upto_any HT.out).mono ?_
  rintro e w1 ⟨rfl, rfl⟩
  go_wp2_with fail
  refine K.out.mono ?_
  rintro e w1 ⟨v', q', rfl, hq, ho, hb, hf⟩
  have HR := Lib.hid (And.intro hq (And.intro ho (And.intro hb hf)))
  clear hq ho hb hf K
  go_wp2
  go_ret2
  exact ⟨v', q', rfl, HR.out.1, HR.out.2.1, HR.out.2.2.1, HR.out.2.2.2⟩
end
end Go.Proofs.Ytpcfhpffbogjmaa

/- Package tape: Add, walked: what is safe, and where it goes. -/
namespace Go.Proofs.Ytpcfhpffbogjmaa
open Go.RowKit

theorem Wl.all_count {l : Wl} (ok : l.Ok) : l.all.length ≤ 7168 := by
  have key : ∀ (s : List (List Rc)) (k : Nat), (∀ rs ∈ s, rs ≠ [] ∧ (∀ r ∈ rs, May r) ∧ (body rs).length ≤ 112) → (Wl.allFrom k s).length ≤ 112 * s.length := by
    intro s
    induction s with
    | nil => intro k _; simp [Wl.allFrom]
    | cons rs s ih =>
      intro k h
      have h1 := ih (k + 1) fun q hq => h q (by simp [hq])
      have h2 := h rs (by simp)
      have h3 := body_count rs h2.2.1
      show (entsOf _ rs ++ Wl.allFrom (k + 1) s).length ≤ 112 * (s.length + 1)
      rw [List.length_append, entsOf_len]
      omega
  have := key l.secs l.low ok.sec
  have h1 := ok.len
  have h2 := ok.s64
  unfold Wl.all
  omega
theorem entsOf_may : ∀ (a : Int) (rs : List Rc), (∀ r ∈ rs, May r) → ∀ x ∈ entsOf a rs, May x.2
  | _, [], _, x, h => by simp [entsOf] at h
  | a, r :: rs, hm, x, h => by
    rcases List.mem_cons.1 h with rfl | h
    · exact hm r (by simp)
    · exact entsOf_may _ rs (fun q hq => hm q (by simp [hq])) x h
theorem Wl.all_may {l : Wl} (ok : l.Ok) : ∀ x ∈ l.all, May x.2 := by
  have key : ∀ (s : List (List Rc)) (k : Nat), (∀ rs ∈ s, ∀ r ∈ rs, May r) → ∀ x ∈ Wl.allFrom k s, May x.2 := by
    intro s
    induction s with
    | nil => intro k _ x h; simp [Wl.allFrom] at h
    | cons rs s ih =>
      intro k h x hx
      rcases List.mem_append.1 hx with hx | hx
      · exact entsOf_may _ rs (h rs (by simp)) x hx
      · exact ih (k + 1) (fun q hq => h q (by simp [hq])) x hx
  exact key l.secs l.low fun rs h => (ok.sec rs h).2.1
/-- Those that are safe are the first ones. -/
theorem Tp.fresh_take {t : Tp} {l : Wl} (ok : l.Ok) (k : Nat) (hk : k ≤ (t.behind l).length) (h1 : ∀ j (hj : j < (t.behind l).length), j < k → (t.behind l)[j].1.tdiv 128 < (l.first : Int))
    (h2 : ∀ hk2 : k < (t.behind l).length, ¬ (t.behind l)[k].1.tdiv 128 < (l.first : Int)) : t.fresh l = (t.behind l).take k := by
  have hup : Up (t.behind l) := List.Pairwise.sublist List.filter_sublist (Wl.all_up ok)
  have hpos : ∀ x ∈ t.behind l, (0 : Int) ≤ x.1 := fun x hx => by have := Wl.all_low ok x (List.mem_filter.1 hx).1; omega
  unfold Tp.fresh
  generalize t.behind l = L at *
  conv => lhs; rw [← List.take_append_drop k L]
  rw [List.filter_append]
  have e1 : (L.take k).filter (fun x => decide (x.1.tdiv 128 < (l.first : Int))) = L.take k := List.filter_eq_self.2 fun x hx => by
    obtain ⟨j, hj, rfl⟩ := List.getElem_of_mem hx
    rw [List.length_take] at hj
    rw [List.getElem_take]
    exact decide_eq_true (h1 j (by omega) (by omega))
  have e2 : (L.drop k).filter (fun x => decide (x.1.tdiv 128 < (l.first : Int))) = [] := List.filter_eq_nil_iff.2 fun x hx => by
    obtain ⟨j, hj, rfl⟩ := List.getElem_of_mem hx
    rw [List.length_drop] at hj
    rw [List.getElem_drop]
    have hkl : k < L.length := by omega
    have h3 := h2 hkl
    have h4 : L[k].1 ≤ L[k + j].1 := by
      by_cases h0 : j = 0
      · subst h0; exact Int.le_refl _
      · exact Int.le_of_lt (List.pairwise_iff_getElem.1 hup k (k + j) hkl (by omega) (by omega))
    have h5 := hpos _ (List.getElem_mem hkl)
    rw [Int.tdiv_eq_ediv_of_nonneg h5] at h3
    simp only [decide_eq_true_eq]
    rw [Int.tdiv_eq_ediv_of_nonneg (by omega)]
    omega
  rw [e1, e2, List.append_nil]
/-- 'list[:p]' of entries of one's own. -/
theorem ta_und : Try.prog.underlying 26 = some (.slice (Try.prog.elem 26)) := by kernel_rfl
theorem ta_elem : Try.prog.elem 26 = 58 := by kernel_rfl
theorem ta_size : ∀ w, (sizeOf 58).run Try.prog w = .ok 12 w := fun w => by kernel_rfl
theorem entsV_take (q : List Qe) (k : Nat) (hk : k ≤ q.length) : entsV (q.take k) = (entsV q).take (k * 12) := by
  have e : entsV (q.take k ++ q.drop k) = entsV (q.take k) ++ entsV (q.drop k) := by unfold entsV; rw [List.flatMap_append]
  rw [List.take_append_drop] at e
  have hl : (entsV (q.take k)).length = k * 12 := by rw [entsV_len, List.length_take, Nat.min_eq_left hk]
  rw [e, ← hl, List.take_left]
theorem ta_upto {w : World} {B : Nat} {v : Value} {q : List Qe} (h : OwnE w B v q) (p : Nat) (hp : p ≤ q.length) :
    ∃ y, (∀ W, (Instr.slice 26 v none (some (.int .i64 p)) none).run Try.prog W = .ok y W) ∧ ∀ W, OwnE W B v q → Src W 12 y p (entsV (q.take p)) := by
  have hone : ∀ W, OwnE W B v q → ∀ u ∈ entsV (q.take p), u.oneCell' = true := fun W hW => entsV_one _ fun x hx => ⟨W, hW.lists x (List.mem_of_mem_take hx)⟩
  have hl : (entsV (q.take p)).length = p * 12 := by rw [entsV_len, List.length_take, Nat.min_eq_left hp]
  rcases own_any h.own with ⟨rfl, h0, _⟩ | ⟨g, cap, rfl, hc, _⟩
  · obtain rfl : p = 0 := by omega
    refine ⟨.slice none 0 0, fun W => ?_, fun W hW => ⟨hl, hone W hW, .inl ⟨rfl, rfl⟩⟩⟩
    have := run_slice_h (P := Try.prog) W 26 none 0 0 ta_und .i64 0 (by omega) (by omega)
    rw [ta_elem, ta_size] at this
    exact this
  · refine ⟨.slice (some ⟨g, 0, none⟩) p cap, fun W => ?_, fun W hW => ⟨hl, hone W hW, .inr ⟨_, cap, rfl, fun j u hj => ?_⟩⟩⟩
    · have := run_slice_h (P := Try.prog) W 26 (some ⟨g, 0, none⟩) q.length cap ta_und .i64 p (by omega) (by omega)
      rw [ta_elem, ta_size] at this
      simp only [sliced, Result.andThen, Int.toNat_natCast] at this
      rw [this]
      by_cases hcap : cap = 0
      · subst hcap; simp
      · rw [if_neg hcap]
        simp [Addr.add]
    · rw [entsV_take q p hp] at hj
      refine hW.own.cells (g := g) rfl j u ?_
      rw [List.getElem?_take] at hj
      split at hj
      · exact hj
      · cases hj
/-- What Add does to a tape's blocks: entries more. -/
theorem TpR.added {w w8 w9 : World} {F : Foot} {g : Nat} {t : Tp} {v v' : Value} {q qr : List Qe} (h : TpR w F g t v q) (hb : Below w.heap.size w w8) (hl : ∀ x ∈ qr, Lists w8 x.r x.vt x.vp) (hf : FreshQ w.heap.size qr)
    (ho : w9.ownsRow 0 58 12 v' (q.length + qr.length) (entsV q ++ entsV qr)) (hg : w8.grownBy w9 v.ownBlock) (hat : v'.ownBlock = v.ownBlock ∨ v'.ownBlock = some w8.heap.size) :
    Blk w9 g 61 (tpCells t v) ∧ TpR (w9.setCell ⟨g, 1, none⟩ v') (fun b => F b ∨ (w.heap.size ≤ b ∧ b < w9.heap.size)) g { t with l := t.l ++ qr.map Qe.ent } v' (q ++ qr) ∧ Step F (fun b => F b ∨ (w.heap.size ≤ b ∧ b < w9.heap.size)) w (w9.setCell ⟨g, 1, none⟩ v') := by
  have r8 := h.below hb
  have hon : Only (fun b => v.ownBlock = some b) w8 w9 := (Only.refl _ w8).grown hg fun b hb => .inl hb
  have B9 : Blk w9 g 61 (tpCells t v) := (hg.block g r8.head.lt fun e => h.vg e.symm).trans r8.head
  have hvg : v'.ownBlock ≠ some g := own_blk ho B9 (by decide)
  have hne : ∀ b, v'.ownBlock = some b → b ≠ g := fun b hb e => by subst e; exact hvg hb
  have ho10 : (w9.setCell ⟨g, 1, none⟩ v').ownsRow 0 58 12 v' (q.length + qr.length) (entsV q ++ entsV qr) := own_keep ho fun b hb => heap_setCell_other w9 ⟨g, 1, none⟩ b _ (hne b hb)
  have hold : ∀ x ∈ qr, ∀ b, (rows3 x.r.txns ≠ [] → x.vt.ownBlock = some b → w.heap.size ≤ b ∧ b < w8.heap.size) ∧ (rows2 x.r.pages ≠ [] → x.vp.ownBlock = some b → w.heap.size ≤ b ∧ b < w8.heap.size) := fun x hx b =>
    ⟨fun hr hv => ⟨(hf x hx).1 hr b hv, (hl x hx).t.blt hr b hv⟩, fun hr hv => ⟨(hf x hx).2 hr b hv, (hl x hx).p.blt hr b hv⟩⟩
  have hvlt : ∀ b, v.ownBlock = some b → b < w.heap.size := fun b hb => h.lt b (h.fv b hb)
  have hgl : g < w.heap.size := h.lt g h.fg
  have hs8 := hb.size
  have hs9 := hg.size
  -- rows of all
  have hrows : ∀ x ∈ q ++ qr, Lists (w9.setCell ⟨g, 1, none⟩ v') x.r x.vt x.vp ∧ Apart v' x := fun x hx => by
    have hon2 : Only (fun b => v.ownBlock = some b ∨ b = g) w8 (w9.setCell ⟨g, 1, none⟩ v') := ((Only.refl _ w8).grown hg fun b hb => .inl (.inl hb)).set (p := ⟨g, 1, none⟩) (.inl (.inr rfl)) _
    rcases List.mem_append.1 hx with hx | hx
    · have hfr := h.fr x hx
      have hap := h.own.apart x hx
      have hll := r8.own.lists x hx
      have hng : ∀ b, F b → b < w.heap.size := h.lt
      refine ⟨hll.keepA hon2 (fun hr b hb e => ?_) (fun hr b hb e => ?_), fun b hb => ⟨fun hr e => ?_, fun hr e => ?_⟩⟩
      · rcases e with e | e
        · exact (hap b e).1 hr hb
        · exact (hfr.1 hr b hb).2 e
      · rcases e with e | e
        · exact (hap b e).2 hr hb
        · exact (hfr.2 hr b hb).2 e
      · rcases hat with hat | hat
        · exact (hap b (hat ▸ hb)).1 hr e
        · have := h.lt b (hfr.1 hr b e).1
          rw [hat] at hb
          cases hb
          omega
      · rcases hat with hat | hat
        · exact (hap b (hat ▸ hb)).2 hr e
        · have := h.lt b (hfr.2 hr b e).1
          rw [hat] at hb
          cases hb
          omega
    · have hll := hl x hx
      refine ⟨hll.keepA hon2 (fun hr b hb e => ?_) (fun hr b hb e => ?_), fun b hb => ⟨fun hr e => ?_, fun hr e => ?_⟩⟩
      · have h1 := (hold x hx b).1 hr hb
        rcases e with e | e
        · have := hvlt b e; omega
        · omega
      · have h1 := (hold x hx b).2 hr hb
        rcases e with e | e
        · have := hvlt b e; omega
        · omega
      · have h1 := (hold x hx b).1 hr e
        rcases hat with hat | hat
        · have := hvlt b (hat ▸ hb); omega
        · rw [hat] at hb; cases hb; omega
      · have h1 := (hold x hx b).2 hr e
        rcases hat with hat | hat
        · have := hvlt b (hat ▸ hb); omega
        · rw [hat] at hb; cases hb; omega
  refine ⟨B9, ⟨B9.set 1 v', ⟨by rw [List.length_append, show entsV (q ++ qr) = entsV q ++ entsV qr by unfold entsV; rw [List.flatMap_append]]; exact ho10, fun x hx => (hrows x hx).1, fun x hx => (hrows x hx).2⟩, by rw [List.map_append, h.ents], .inl h.fg, fun b hb => ?_, fun x hx => ?_, fun b hF => ?_⟩, ?_⟩
  · rcases hat with hat | hat
    · exact .inl (h.fv b (hat ▸ hb))
    · rw [hat] at hb
      cases hb
      exact .inr ⟨hs8, (ho.lt _ hat).2⟩
  · rcases List.mem_append.1 hx with hx | hx
    · exact ⟨fun hr b hb => ⟨.inl ((h.fr x hx).1 hr b hb).1, ((h.fr x hx).1 hr b hb).2⟩, fun hr b hb => ⟨.inl ((h.fr x hx).2 hr b hb).1, ((h.fr x hx).2 hr b hb).2⟩⟩
    · exact ⟨fun hr b hb => by have := (hold x hx b).1 hr hb; exact ⟨.inr (by omega), by omega⟩, fun hr b hb => by have := (hold x hx b).2 hr hb; exact ⟨.inr (by omega), by omega⟩⟩
  · simp only [World.setCell]
    simp
    rcases hF with hF | hF
    · have := h.lt b hF; omega
    · exact hF.2
  · refine Step.set (w' := w9) ?_ (p := ⟨g, 1, none⟩) (.inl h.fg) _
    exact ⟨hon.os.trans hb.os, hon.tape.trans hb.tape, hon.output.trans hb.output, by omega, fun b hlt hF => (hon.block b (by omega) fun e => hF (h.fv b e)).trans (hb.block b hlt), fun b hF => hF.elim .inl fun e => .inr e.1⟩
end Go.Proofs.Ytpcfhpffbogjmaa
