/- Texts that belong together, joined: WalH, WalE, WalF, WalG, WlC, WlD, WalI, WalJ. -/
import Derived.Test.YtpcfhpffbogjmaaJc
import Derived.Test.YtpcfhpffbogjmaaRecAll
import Derived.Test.YtpcfhpffbogjmaaJb
import Derived.WalkMore
import Derived.IntWalk
import Derived.Deep.LoopGhost
/- Package wal: the records of a sector. -/
namespace Go.Proofs.Ytpcfhpffbogjmaa
open Go.RowKit

def Qe.moved (x : Qe) (a : Int) : Qe := ⟨a, x.r, x.vt, x.vp⟩
def Qe.shift (d : Int) (x : Qe) : Qe := x.moved (x.at_ + d)
theorem entsV_set : ∀ (q : List Qe) (j : Nat) (h : j < q.length) (a : Int), (entsV q).set (j * 12) (.int .i64 a) = entsV (q.set j (q[j].moved a))
  | [], j, h, _ => by simp at h
  | x :: q, 0, _, a => rfl
  | x :: q, j + 1, h, a => by
    show (x.cells ++ entsV q).set ((j + 1) * 12) _ = x.cells ++ entsV (q.set j ((q[j]'(by simpa using h)).moved a))
    rw [← entsV_set q j (by simpa using h) a, List.set_append_right _ _ (by rw [Qe.cells_len]; omega), Qe.cells_len, show (j + 1) * 12 - 12 = j * 12 by omega]
/-- A place is written in a list of one's own. -/
theorem OwnE.stored {w : World} {B g n cap : Nat} {q : List Qe} (h : OwnE w B (.slice (some ⟨g, 0, none⟩) n cap) q) (hn : n = q.length) (j : Nat) (hj : j < q.length) (a : Int) :
    OwnE (w.setCell ⟨g, j * 12, none⟩ (.int .i64 a)) B (.slice (some ⟨g, 0, none⟩) n cap) (q.set j (q[j].moved a)) := by
  subst hn
  have ho := (h.own.stored (j * 12) (.int .i64 a)).1
  rw [entsV_set q j hj a] at ho
  have hon : Only (· = g) w (w.setCell ⟨g, j * 12, none⟩ (.int .i64 a)) := (Only.refl (· = g) w).set (p := ⟨g, j * 12, none⟩) (.inl rfl) _
  have hall : ∀ y ∈ q.set j (q[j].moved a), Lists w y.r y.vt y.vp ∧ Apart (.slice (some ⟨g, 0, none⟩) q.length cap) y := fun y hy => by
    rcases List.mem_or_eq_of_mem_set hy with hy | rfl
    · exact ⟨h.lists y hy, h.apart y hy⟩
    · exact ⟨h.lists q[j] (List.getElem_mem hj), h.apart q[j] (List.getElem_mem hj)⟩
  refine ⟨?_, fun y hy => ?_, fun y hy => (hall y hy).2⟩
  · rw [List.length_set]; exact ho
  · obtain ⟨hl, ha⟩ := hall y hy
    exact hl.keepA hon (fun hr b hb e => by subst e; exact (ha b rfl).1 hr hb) (fun hr b hb e => by subst e; exact (ha b rfl).2 hr hb)
/-- The first j are moved. -/
def Qe.part (d : Int) (q : List Qe) (j : Nat) : List Qe := (q.take j).map (Qe.shift d) ++ q.drop j
theorem part_len (d : Int) (q : List Qe) (j : Nat) (h : j ≤ q.length) : (Qe.part d q j).length = q.length := by unfold Qe.part; simp; omega
theorem part_zero (d : Int) (q : List Qe) : Qe.part d q 0 = q := rfl
theorem part_all (d : Int) (q : List Qe) : Qe.part d q q.length = q.map (Qe.shift d) := by unfold Qe.part; simp
theorem part_split (d : Int) (q : List Qe) (j : Nat) (h : j < q.length) : Qe.part d q j = (q.take j).map (Qe.shift d) ++ (q[j] :: q.drop (j + 1)) := by unfold Qe.part; rw [List.drop_eq_getElem_cons h]
theorem part_next (d : Int) (q : List Qe) (j : Nat) (h : j < q.length) : (Qe.part d q j).set j (Qe.shift d q[j]) = Qe.part d q (j + 1) := by
  have hl : ((q.take j).map (Qe.shift d)).length = j := by simp; omega
  rw [part_split d q j h, List.set_append_right _ _ (by omega), hl, Nat.sub_self, List.set_cons_zero]
  unfold Qe.part
  rw [List.take_succ_eq_append_getElem h, List.map_append, List.append_assoc]
  rfl
theorem part_at (d : Int) (q : List Qe) (j : Nat) (h : j < q.length) (h' : j < (Qe.part d q j).length) : (Qe.part d q j)[j] = q[j] := by
  have hl : ((q.take j).map (Qe.shift d)).length = j := by simp; omega
  have : (Qe.part d q j)[j]? = some q[j] := by
    rw [part_split d q j h, List.getElem?_append_right (by omega), hl, Nat.sub_self]
    rfl
  rw [List.getElem?_eq_getElem h'] at this
  exact Option.some.inj this
theorem shift_ents (d : Int) (q : List Qe) : (q.map (Qe.shift d)).map Qe.ent = (q.map Qe.ent).map fun x => (x.1 + d, x.2) := by
  rw [List.map_map, List.map_map]
  rfl
theorem body_count : ∀ (rs : List Rc) (_ : ∀ r ∈ rs, May r), rs.length ≤ (body rs).length
  | [], _ => Nat.zero_le _
  | r :: rs, h => by
    have := body_count rs fun q hq => h q (by simp [hq])
    have hp := lay_pos (h r (by simp))
    simp only [body, List.flatMap_cons, List.length_append, List.length_cons] at *
    omega
theorem entsOf_len : ∀ (a : Int) (rs : List Rc), (entsOf a rs).length = rs.length
  | _, [] => rfl
  | a, r :: rs => by show (entsOf _ rs).length + 1 = _; rw [entsOf_len]; rfl
/-- The entries of the sector with this number. -/
def Wl.entries (l : Wl) (k : Int) : List Ent := if l.low ≤ k ∧ k < l.end_ then entsOf (k * 128) (l.secs.getD (k.toNat - l.low) []) else []
def EntsOut (w : World) (es : List Ent) (e : Ending) (w' : World) : Prop := ∃ v q, e = .returned v ∧ q.map Qe.ent = es ∧ OwnE w' w.heap.size v q ∧ Below w.heap.size w w' ∧ FreshQ w.heap.size q
theorem FreshQ.base {B B' : Nat} {q : List Qe} (h : FreshQ B q) (hb : B' ≤ B) : FreshQ B' q := fun x hx => ⟨fun hr b hv => Nat.le_trans hb ((h x hx).1 hr b hv), fun hr b hv => Nat.le_trans hb ((h x hx).2 hr b hv)⟩
theorem FreshQ.shift {B : Nat} {q : List Qe} (h : FreshQ B q) (d : Int) : FreshQ B (q.map (Qe.shift d)) := fun x hx => by
  obtain ⟨y, hy, rfl⟩ := List.mem_map.1 hx
  exact h y hy
/-- A list of one's own, as an operation yields it: alone; beside a number. -/
def Yield.own (B : Nat) (es : List Ent) : Yield := ⟨none, fun (v : Value) (w : World) => ∃ q : List Qe, q.map Qe.ent = es ∧ OwnE w B v q ∧ FreshQ B q, fun _ _ _ hb h => h.elim fun q h => ⟨q, h.1, h.2.1.keep hb, h.2.2⟩, fun _ h => by cases h⟩
def Yield.outs (B : Nat) (es : List Ent) (c : Int) : Yield := ⟨none, fun (x : Value) (w : World) => ∃ (v : Value) (q : List Qe), x = .tuple #[v, .int .i64 c] ∧ q.map Qe.ent = es ∧ OwnE w B v q ∧ FreshQ B q, fun _ _ _ hb h => h.elim fun v h => h.elim fun q h => ⟨v, q, h.1, h.2.1, h.2.2.1.keep hb, h.2.2.2⟩, fun _ h => by cases h⟩
theorem own_base_to {w : World} {B B' size n : Nat} {e : TypeId} {v : Value} {xs : List Value} (h : w.ownsRow B e size v n xs) (hb : B' ≤ B) : w.ownsRow B' e size v n xs := by
  obtain ⟨hl, h | ⟨g, cap, cur, rfl, h1, h2⟩⟩ := h
  · exact ⟨hl, .inl h⟩
  · exact ⟨hl, .inr ⟨g, cap, cur, rfl, Nat.le_trans hb h1, h2⟩⟩
theorem OwnE.base {w : World} {B B' : Nat} {v : Value} {q : List Qe} (h : OwnE w B v q) (hb : B' ≤ B) : OwnE w B' v q := ⟨own_base_to h.own hb, h.lists, h.apart⟩
section
variable {w : World} {F : Foot} {g gd : Nat} {l : Wl}
set_option maxRecDepth 100000 in
set_option maxHeartbeats 2000000 in
theorem entries_out (h : IsLog w F g gd l) (k : Int) (hk : ¬ (l.low ≤ k ∧ k < l.end_)) : Calls Try.prog 54 #[.pointer (some ⟨g, 0, none⟩), .int .i64 k] w (EntsOut w []) := by
  have H1 := Lib.hid (end_any h)
  have c4 := h.zero.cells.2.2.2
  have hlo : (0 : Int) ≤ l.low := by omega
  clear h
  by_cases h1 : k < l.low
  · clear hk
    go_enter Try.func54, Try.ntmps54
    go_wp2_with fail
    go_ret
    exact ⟨_, [], rfl, rfl, OwnE.nil _ _, Below.refl _ _, FreshQ.nil _⟩
  · have h2 : (l.end_ : Int) ≤ k := by omega
    clear hk
    generalize l.end_ = x at *
    go_enter Try.func54, Try.ntmps54
    go_wp2_with fail
    refine H1.out.mono ?_
    rintro e w1 ⟨rfl, n, rfl⟩
    go_wp2
    go_ret
    exact ⟨_, [], rfl, rfl, OwnE.nil _ _, drewN_below w n, FreshQ.nil _⟩
set_option maxRecDepth 100000 in
set_option maxHeartbeats 8000000 in
theorem entries_in (h : IsLog w F g gd l) (k : Nat) (h1 : l.low ≤ k) (h2 : k < l.end_) : Calls Try.prog 54 #[.pointer (some ⟨g, 0, none⟩), .int .i64 k] w (EntsOut w (entsOf ((k * 128 : Nat) : Int) (l.secs.getD (k - l.low) []))) := by
  have H1 := Lib.hid (end_any h)
  have HLOG := Lib.hid h
  obtain ⟨ok, vb, r⟩ := h
  have hlm := ok.lm
  have h64 := ok.s64
  have hlen := ok.len
  have hkl : k - l.low < l.secs.length := by unfold Wl.end_ at h2; omega
  have hmem : l.secs.getD (k - l.low) [] ∈ l.secs := by
    rw [List.getD_eq_getElem?_getD, List.getElem?_eq_getElem hkl]
    exact List.getElem_mem hkl
  obtain ⟨_, hmay, h112⟩ := ok.sec _ hmem
  obtain ⟨g2, cap, rfl, hcap, hcm⟩ := own_form r.rows (by omega)
  have cl : w.cell? ⟨g2, k - l.low, none⟩ = some (.string (bodyS (l.secs.getD (k - l.low) []))) := by
    rw [r.rows.cellAt _ (by omega)]
    simp only [strsV, List.map_map, List.getElem?_map]
    rw [List.getD_eq_getElem?_getD, List.getElem?_eq_getElem hkl]
    rfl
  have hg2 : g2 < w.heap.size := (r.rows.lt g2 rfl).2
  have CELLS : Hid (∀ W, Below w.heap.size w W → W.cell? ⟨g, 4, none⟩ = some (.int .i64 l.low) ∧ W.cell? ⟨g, 6, none⟩ = some (.slice (some ⟨g2, 0, none⟩) l.secs.length cap) ∧ W.cell? ⟨g2, k - l.low, none⟩ = some (.string (bodyS (l.secs.getD (k - l.low) [])))) :=
    fun W hW => ⟨(r.below hW).cells.2.2.2.2.1, (r.below hW).cells.2.2.2.2.2.2, (hW.cell (p := ⟨g2, k - l.low, none⟩) hg2).trans cl⟩
  have AL : Hid (∀ W, Calls Try.prog 71 #[.string (bodyS (l.secs.getD (k - l.low) []))] W (AllOut W (some (entsOf 0 (l.secs.getD (k - l.low) []))))) := fun W => by
    have := all_any (bodyS (l.secs.getD (k - l.low) [])) W (by rw [bodyS_size]; omega)
    rwa [show allS (bodyS (l.secs.getD (k - l.low) [])) = some (entsOf 0 (l.secs.getD (k - l.low) [])) from allS_body hmay] at this
  have c4 := r.cells.2.2.2.2.1
  have hki : ¬ (k : Int) < l.low := by omega
  have hke : (k : Int) < l.end_ := by omega
  have hidx : (k : Int) - (l.low : Int) < l.secs.length := by omega
  have hidx0 : (0 : Int) ≤ (k : Int) - (l.low : Int) := by omega
  have htn : ((k : Int) - (l.low : Int)).toNat = k - l.low := by omega
  have hkb : (k : Int) ≤ 2147483711 := by unfold Wl.end_ at h2; omega
  have hbl : (entsOf 0 (l.secs.getD (k - l.low) [])).length ≤ 112 := by
    rw [entsOf_len]
    exact Nat.le_trans (body_count _ hmay) h112
  have HBD : Hid (∀ x ∈ entsOf 0 (l.secs.getD (k - l.low) []), 0 ≤ x.1 ∧ x.1 ≤ 112) := fun x hx => by
    have := entsOf_ge 0 _ hmay x hx
    have h112' : ((l.secs.getD (k - l.low) []).flatMap lay).length ≤ 112 := h112
    omega
  clear hkl hmem hmay h112 hcap hcm cl hg2 ok r hlm h64 hlen h1 h2
  generalize l.secs.getD (k - l.low) [] = rs at *
  generalize bodyS rs = b at *
  generalize l.end_ = x at *
  have hd : decide (x ≤ k) = false := by simp; omega
  go_enter Try.func54, Try.ntmps54
  go_wp2_with fail
  refine H1.out.mono ?_
  rintro e w1 ⟨rfl, n, rfl⟩
  have HB1 := Lib.hid (drewN_below w n)
  go_wp2_with fail
  generalize w.drewN n = w2 at *
  clear c4
  refine' wp_region_conf 18 (.is _ :: .is _ :: .is _ :: .is _ :: .is _ :: .is _ :: .is _ :: .is _ :: .is _ :: .is _ :: .is _ :: .is _ :: .outs w.heap.size (entsOf 0 rs) 0 :: .outs w.heap.size (entsOf 0 rs) 0 :: .own w.heap.size (entsOf 0 rs) :: .is (.int .i64 0) :: .own w.heap.size (entsOf 0 rs) :: .is (.int .i64 0) :: []) (by kernel_rfl) (by kernel_rfl) (by kernel_rfl) (by kernel_rfl) rfl ?main
  case main =>
    iterate 12
      refine obs_is (fun w4 hE4 _ => ?_) ?_
      · obtain ⟨d4, d6, db⟩ := CELLS.out w4 (HB1.out.trans (((Below.refl w2.heap.size w2).drew.trans hE4).mono HB1.out.size))
        go_wp2
        exact post_is (Below.refl _ _)
      simp only [Act.put, List.setIfInBounds_toArray, List.set_cons_zero, List.set_cons_succ]
    refine ⟨fun w4 hE4 _ => ?_, fun x1 => ?_⟩
    · have hs4 : w.heap.size ≤ w4.heap.size := (HB1.out.trans (((Below.refl w2.heap.size w2).drew.trans hE4).mono HB1.out.size)).size
      clear hE4
      go_wp2_with fail
      refine (AL.out _).mono ?_
      rintro e w5 ⟨v5, q5, rfl, hq5, ho5, hb5, hf5⟩
      have HH : Hid (∃ (v : Value) (q : List Qe), Value.tuple #[v5, .int .i64 (allCode (some (entsOf 0 rs)))] = .tuple #[v, .int .i64 0] ∧ q.map Qe.ent = entsOf 0 rs ∧ OwnE w5 w.heap.size v q ∧ FreshQ w.heap.size q) := ⟨v5, q5, rfl, hq5, ho5.base hs4, hf5.base hs4⟩
      have HBB := Lib.hid hb5
      clear hq5 ho5 hb5 hf5
      go_wp2
      refine ⟨.tuple #[v5, .int .i64 (allCode (some (entsOf 0 rs)))], ?_, HH.out, HBB.out⟩
      simp only [Act.put, List.setIfInBounds_toArray, List.set_cons_zero, List.set_cons_succ]
    simp only [Act.put, List.setIfInBounds_toArray, List.set_cons_zero, List.set_cons_succ]
    refine ⟨fun w4 hE4 hk => ?_, fun x2 => ?_⟩
    · obtain ⟨v5, q5, rfl, hq5, ho5, hf5⟩ := hk _ (List.mem_cons_self) (by kernel_rfl)
      have HH : Hid (∃ v q, Value.tuple #[v5, .int .i64 0] = .tuple #[v, .int .i64 0] ∧ q.map Qe.ent = entsOf 0 rs ∧ OwnE w4 w.heap.size v q ∧ FreshQ w.heap.size q) := ⟨v5, q5, rfl, hq5, ho5, hf5⟩
      clear hq5 ho5 hf5 hk hE4
      go_wp2
      refine ⟨(.tuple #[v5, .int .i64 0]), ?_, HH.out, Below.refl _ _⟩
      simp only [Act.put, List.setIfInBounds_toArray, List.set_cons_zero, List.set_cons_succ]
    simp only [Act.put, List.setIfInBounds_toArray, List.set_cons_zero, List.set_cons_succ]
    refine ⟨fun w4 hE4 hk => ?_, fun x3 => ?_⟩
    · obtain ⟨v5, q5, rfl, hq5, ho5, hf5⟩ := hk _ (List.mem_cons_self) (by kernel_rfl)
      have HH : Hid (∃ q, q.map Qe.ent = entsOf 0 rs ∧ OwnE w4 w.heap.size v5 q ∧ FreshQ w.heap.size q) := ⟨q5, hq5, ho5, hf5⟩
      clear hq5 ho5 hf5 hk hE4
      go_wp2
      refine ⟨v5, ?_, HH.out, Below.refl _ _⟩
      simp only [Act.put, List.setIfInBounds_toArray, List.set_cons_zero, List.set_cons_succ]
    simp only [Act.put, List.setIfInBounds_toArray, List.set_cons_zero, List.set_cons_succ]
    refine obs_is (fun w4 hE4 hk => ?_) ?_
    · obtain ⟨v5, q5, rfl, hq5, ho5, hf5⟩ := hk _ (List.mem_cons_of_mem _ (List.mem_cons_self)) (by kernel_rfl)
      clear hq5 ho5 hf5 hk hE4
      go_wp2
      exact post_is (Below.refl _ _)
    simp only [Act.put, List.setIfInBounds_toArray, List.set_cons_zero, List.set_cons_succ]
    refine ⟨fun w4 hE4 hk => ?_, fun x4 => ?_⟩
    · obtain ⟨q5, hq5, ho5, hf5⟩ := hk _ (List.mem_cons_self) (by kernel_rfl)
      have HH : Hid (∃ q, q.map Qe.ent = entsOf 0 rs ∧ OwnE w4 w.heap.size x3 q ∧ FreshQ w.heap.size q) := ⟨q5, hq5, ho5, hf5⟩
      clear hq5 ho5 hf5 hk hE4
      go_wp2
      refine ⟨x3, ?_, HH.out, Below.refl _ _⟩
      simp only [Act.put, List.setIfInBounds_toArray, List.set_cons_zero, List.set_cons_succ]
    simp only [Act.put, List.setIfInBounds_toArray, List.set_cons_zero, List.set_cons_succ]
    refine obs_is (fun w4 hE4 hk => ?_) ?_
    · clear hk hE4
      go_wp2
      exact post_is (Below.refl _ _)
    simp only [Act.put, List.setIfInBounds_toArray, List.set_cons_zero, List.set_cons_succ]
    refine obs_end fun w4 hE4 hk => ?_
    obtain ⟨q, hq, ho4, hfq⟩ := hk _ (List.mem_cons_self)
    have HB4 := Lib.hid (HB1.out.trans (((Below.refl w2.heap.size w2).drew.trans hE4).mono HB1.out.size))
    have hql : q.length ≤ 112 := by rw [← hq, List.length_map] at hbl; exact hbl
    have HQ := Lib.hid hq
    have HFQ := Lib.hid hfq
    clear hfq
    clear hq hk hE4 HB1 CELLS AL H1 hbl
    change wpList _ _ _ _ _ _
    have ho : OwnE w4 w.heap.size x4 q := ho4
    have HQB : Hid (∀ x ∈ q, 0 ≤ x.at_ ∧ x.at_ ≤ 112) := fun x hx => HBD.out x.ent (by rw [← HQ.out]; exact List.mem_map_of_mem hx)
    clear ho4 HBD
    rcases own_any ho.own with ⟨rfl, h0, _⟩ | ⟨gg, cp, rfl, hc1, hc2⟩
    · have hqn : q = [] := List.eq_nil_of_length_eq_zero h0
      subst hqn
      have HO := Lib.hid ho
      have hnil : entsOf ((k * 128 : Nat) : Int) rs = [] := by
        have := HQ.out
        have e : rs = [] := by
          have h2 := congrArg List.length this
          rw [entsOf_len] at h2
          exact List.eq_nil_of_length_eq_zero h2.symm
        rw [e]; rfl
      have HN := Lib.hid hnil
      clear ho h0 hnil hql HQ HQB
      go_wp2_with fail
      refine wp_loop_rounds 1 ?_
      rw [rounds_succ]
      go_wp2
      go_ret
      exact ⟨_, [], rfl, by rw [HN.out]; rfl, HO.out, HB4.out, FreshQ.nil _⟩
    · have HO : Hid (OwnE w4 w.heap.size (.slice (some ⟨gg, 0, none⟩) q.length cp) (Qe.part ((k : Int) * 128) q 0)) := ho
      have hqi : (q.length : Int) ≤ 112 := by omega
      clear ho hc1 hc2
      go_wp2_with fail
      go_loopw [38] (fun vj wr => ∃ j : Nat, vj = .int .i64 j ∧ j ≤ q.length ∧ OwnE wr w.heap.size (.slice (some ⟨gg, 0, none⟩) q.length cp) (Qe.part ((k : Int) * 128) q j) ∧ Below w.heap.size w wr) (fun vj _ => q.length - (intOf vj).toNat)
      case atStart => exact ⟨0, rfl, Nat.zero_le _, HO.out, HB4.out⟩
      case round =>
        obtain ⟨j, rfl, hj, hoj, hB⟩ := hrel
        clear HO HB4
        by_cases hlt : j < q.length
        · have hl2 : j < (Qe.part ((k : Int) * 128) q j).length := by rw [part_len _ _ _ hj]; exact hlt
          have hat := part_at ((k : Int) * 128) q j hlt hl2
          have hown := hoj.own
          rw [part_len _ _ _ hj] at hown
          have hcell := hown.cellAt (j * 12 + 0) (by omega)
          rw [entsV_at _ j hl2 0 (by omega), hat, Nat.add_zero] at hcell
          have hcell' : wr.cell? ⟨gg, j * 12, none⟩ = some (.int .i64 q[j].at_) := hcell
          have hfr := hown.frozenAt (j * 12)
          have hb0 := (HQB.out q[j] (List.getElem_mem hlt)).1
          have hb1 := (HQB.out q[j] (List.getElem_mem hlt)).2
          have hs := hoj.stored (part_len _ _ _ hj).symm j hl2 (q[j].at_ + (k : Int) * 128)
          rw [hat, show q[j].moved (q[j].at_ + (k : Int) * 128) = Qe.shift ((k : Int) * 128) q[j] from rfl, part_next _ _ _ hlt] at hs
          have HS := Lib.hid hs
          have HB := Lib.hid (hB.setCell (p := ⟨gg, j * 12, none⟩) (hoj.own.lt gg rfl).1 (.int .i64 (q[j].at_ + (k : Int) * 128)))
          have hji : (j : Int) < q.length := by omega
          clear hown hcell hs hB hoj hat hl2
          generalize q[j].at_ = z at *
          go_wp2
          go_roundw
          case rel => exact ⟨j + 1, by go_num, by omega, HS.out, HB.out⟩
          case measure => simp [intOf]; omega
        · obtain rfl : j = q.length := by omega
          rw [part_all] at hoj
          have HO := Lib.hid hoj
          have HB := Lib.hid hB
          clear hoj hB
          go_wp2
          go_ret
          refine ⟨_, _, rfl, ?_, HO.out, HB.out, HFQ.out.shift _⟩
          rw [shift_ents, HQ.out, entsOf_shift]
          congr 1
          omega
theorem entries_any (h : IsLog w F g gd l) (k : Int) : Calls Try.prog 54 #[.pointer (some ⟨g, 0, none⟩), .int .i64 k] w (EntsOut w (l.entries k)) := by
  unfold Wl.entries
  by_cases hk : l.low ≤ k ∧ k < l.end_
  · rw [if_pos hk]
    obtain ⟨k', rfl⟩ := Int.eq_ofNat_of_zero_le (show 0 ≤ k by omega)
    have := entries_in h k' (by omega) (by omega)
    rw [Int.toNat_natCast]
    rw [Int.natCast_mul] at this
    exact this
  · rw [if_neg hk]
    exact entries_out h k hk
end
end Go.Proofs.Ytpcfhpffbogjmaa

/- Package wal: a new log; what the ring has. -/
namespace Go.Proofs.Ytpcfhpffbogjmaa
open Go.RowKit

theorem logNew_nil (a b : Int) (w : World) : Calls Try.prog 14 #[.pointer none, .int .i64 a, .int .i64 b] w fun e w' => e = .returned (.tuple #[.pointer none, .int .i64 10]) ∧ w = w' := by
  go_enter Try.func14, Try.ntmps14
  go_wp2
  go_ret2
  exact ⟨rfl, rfl⟩
section
variable {w : World} {FD FL : Foot} {g gd : Nat} {D : Dk} {l : Wl}
set_option maxRecDepth 100000 in
set_option maxHeartbeats 2000000 in
theorem logNew_ok (h : IsDisk w FD gd D) (base n : Nat) (h8 : 8 ≤ n) (h64 : n ≤ 64) (hb : base + n ≤ D.safe.length) :
    Calls Try.prog 14 #[.pointer (some ⟨gd, 0, none⟩), .int .i64 base, .int .i64 n] w fun e w' => ∃ g, e = .returned (.tuple #[.pointer (some ⟨g, 0, none⟩), .int .i64 0]) ∧ IsLog w' (· = g) g gd (Wl.new base n) ∧ w.heap.size ≤ g ∧ Below w.heap.size w w' := by
  have H1 := Lib.hid (size_any h)
  have hs := h.1.le
  have hok := Wl.Ok.new h8 h64 (by omega : base + n ≤ 512)
  have HOK := Lib.hid hok
  have a8 : (8 : Int) ≤ n := by omega
  have a64 : (n : Int) ≤ 64 := by omega
  have a0 : (base : Int) ≤ 512 := by omega
  have a5 : (D.safe.length : Int) ≤ 512 := by omega
  have hcmp : (base : Int) ≤ (D.safe.length : Int) - n := by omega
  have t1 : decide ((n : Int) < 8) = false := by simp; omega
  have t2 : decide ((64 : Int) < n) = false := by simp; omega
  have t3 : decide ((base : Int) < 0) = false := by simp
  clear h hok h8 h64 hb hs
  generalize D.safe.length = m at *
  go_enter Try.func14, Try.ntmps14
  go_wp2_with fail
  refine H1.out.mono ?_
  rintro e w1 ⟨rfl, rfl⟩
  go_wp2
  go_ret2
  refine ⟨w.heap.size, rfl, ⟨HOK.out, .slice none 0 0, ?_⟩, Nat.le_refl _, (Below.refl _ _).alloc (Nat.le_refl _) _⟩
  exact ⟨Blk.new w 74 (logCells gd (Wl.new base n) (.slice none 0 0)), World.ownsRow_nil _ _ _ _, rfl, fun b hb => by simp [Value.ownBlock] at hb, fun b hb => by subst hb; simp⟩

/-- A slab in memory: of a sector that is none, an empty one. -/
abbrev Slab3 := Nat × Nat × ByteArray
open Classical in
noncomputable def slab3 (s : ByteArray) : Slab3 := if IsSlab s then (partE s, partI s, partB s) else (0, 0, ⟨#[]⟩)
def slabCells (x : Slab3) : List Value := [.int .u32 x.1, .int .u32 x.2.1, .string x.2.2]
def slabsV (l : List Slab3) : List Value := l.flatMap slabCells
theorem slabsV_len (l : List Slab3) : (slabsV l).length = l.length * 3 := by
  induction l with
  | nil => rfl
  | cons x l ih => show (slabCells x ++ slabsV l).length = _; rw [List.length_append, ih, List.length_cons]; simp [slabCells]; omega
theorem slabsV_at (l : List Slab3) (j : Nat) (h : j < l.length) : (slabsV l)[j * 3]? = some (.int .u32 l[j].1) ∧ (slabsV l)[j * 3 + 1]? = some (.int .u32 l[j].2.1) ∧ (slabsV l)[j * 3 + 2]? = some (.string l[j].2.2) := by
  induction l generalizing j with
  | nil => simp at h
  | cons x l ih =>
    have e : slabsV (x :: l) = .int .u32 x.1 :: .int .u32 x.2.1 :: .string x.2.2 :: slabsV l := rfl
    cases j with
    | zero => simp [e]
    | succ j =>
      have := ih j (by simpa using h)
      rw [e, show (j + 1) * 3 = j * 3 + 1 + 1 + 1 by omega]
      exact this
theorem info_slab : (Try.prog.info? 104).map (fun i => (i.zero, i.size, i.bytes)) = some (some (.agg #[.int .u32 0, .int .u32 0, .string ⟨#[]⟩]), 3, 24) := by kernel_rfl
/-- What the ring has, from low on. -/
noncomputable def ringOf (l : Wl) (D : Dk) (k : Nat) : List Slab3 := (List.range k).map fun i => slab3 (D.at_ (l.place (l.low + i) : Nat))
def noSlabs (n : Nat) : List Slab3 := List.replicate n (0, 0, ⟨#[]⟩)
theorem made3 (a b c : Value) (n : Nat) : (madeCells #[a, b, c] (n * 3)).toList = (List.replicate n [a, b, c]).flatten := by
  induction n with
  | zero => simp [madeCells]
  | succ n ih =>
    rw [List.replicate_succ', List.flatten_append, ← ih]
    simp only [madeCells, Array.toList_map, Array.toList_range]
    rw [show (n + 1) * 3 = n * 3 + 1 + 1 + 1 by omega, List.range_succ, List.range_succ, List.range_succ]
    simp only [List.map_append, List.map_cons, List.map_nil, List.append_assoc]
    congr 1
    have e0 : n * 3 % 3 = 0 := by omega
    have e1 : (n * 3 + 1) % 3 = 1 := by omega
    have e2 : (n * 3 + 1 + 1) % 3 = 2 := by omega
    simp [e0, e1, e2]
theorem slabsV_set : ∀ (L : List Slab3) (j : Nat) (_ : j < L.length) (x : Slab3), (((slabsV L).set (j * 3) (.int .u32 x.1)).set (j * 3 + 1) (.int .u32 x.2.1)).set (j * 3 + 2) (.string x.2.2) = slabsV (L.set j x)
  | [], j, h, _ => by simp at h
  | y :: L, 0, _, x => rfl
  | y :: L, j + 1, h, x => by
    have e : slabsV (y :: L) = .int .u32 y.1 :: .int .u32 y.2.1 :: .string y.2.2 :: slabsV L := rfl
    have e2 : slabsV ((y :: L).set (j + 1) x) = .int .u32 y.1 :: .int .u32 y.2.1 :: .string y.2.2 :: slabsV (L.set j x) := rfl
    rw [e, e2, ← slabsV_set L j (by simpa using h) x, show (j + 1) * 3 = j * 3 + 1 + 1 + 1 by omega]
    rfl
theorem ring_next (l : Wl) (D : Dk) (k n : Nat) (h : k < n) : (ringOf l D k ++ noSlabs (n - k)).set k (slab3 (D.at_ (l.place (l.low + k) : Nat))) = ringOf l D (k + 1) ++ noSlabs (n - (k + 1)) := by
  have e : noSlabs (n - k) = (0, 0, ⟨#[]⟩) :: noSlabs (n - (k + 1)) := by unfold noSlabs; rw [show n - k = (n - (k + 1)) + 1 by omega, List.replicate_succ]
  have hl : (ringOf l D k).length = k := by simp [ringOf]
  rw [e, List.set_append_right _ _ (by omega), hl, Nat.sub_self, List.set_cons_zero]
  unfold ringOf
  rw [List.range_succ]
  simp
theorem ring_len (l : Wl) (D : Dk) (k n : Nat) (h : k ≤ n) : (ringOf l D k ++ noSlabs (n - k)).length = n := by simp [ringOf, noSlabs]; omega
end
end Go.Proofs.Ytpcfhpffbogjmaa

/- Package wal: the bodies of the slabs that are the log's. -/
namespace Go.Proofs.Ytpcfhpffbogjmaa
open Go.RowKit

/-- The bodies of slabs, from the number i on, as far as they are the log's. -/
def wholeP : Nat → Nat → List Slab3 → List ByteArray
  | _, _, [] => []
  | a, i, x :: xs => if x.2.1 = i ∧ x.2.2.size ≠ 0 ∧ (allS x.2.2).isSome = true ∧ a ≤ x.1 then x.2.2 :: wholeP x.1 (i + 1) xs else []
theorem wholeP_go {a i : Nat} {x : Slab3} {xs : List Slab3} (h1 : x.2.1 = i) (h2 : x.2.2.size ≠ 0) (h3 : (allS x.2.2).isSome = true) (h4 : a ≤ x.1) : wholeP a i (x :: xs) = x.2.2 :: wholeP x.1 (i + 1) xs := by
  rw [wholeP, if_pos ⟨h1, h2, h3, h4⟩]
theorem wholeP_stop {a i : Nat} {x : Slab3} {xs : List Slab3} (h : ¬ (x.2.1 = i ∧ x.2.2.size ≠ 0 ∧ (allS x.2.2).isSome = true ∧ a ≤ x.1)) : wholeP a i (x :: xs) = [] := by
  rw [wholeP, if_neg h]
theorem toList_nil {u : ByteArray} (h : u.size = 0) : (u.toList == []) = true := by
  rw [ByteArray.toList_eq]
  have h2 : u.data.toList.length = 0 := h
  rw [List.eq_nil_of_length_eq_zero h2]
  rfl
def WholeOut (w : World) (bs : List ByteArray) (e : Ending) (w' : World) : Prop := ∃ vb, e = .returned vb ∧ w'.ownsRow w.heap.size 9 1 vb bs.length (strsV bs) ∧ Below w.heap.size w w'
end Go.Proofs.Ytpcfhpffbogjmaa

/- Package wal: Open. -/
namespace Go.Proofs.Ytpcfhpffbogjmaa
open Go.RowKit

def epochOf (L : List Slab3) : Nat := L.foldl (fun e x => max e (x.1 + 1)) 1
theorem epochOf_snoc (L : List Slab3) (x : Slab3) : epochOf (L ++ [x]) = max (epochOf L) (x.1 + 1) := by simp [epochOf]
theorem epochOf_le {L : List Slab3} (h : ∀ x ∈ L, x.1 < 4294967296) : 1 ≤ epochOf L ∧ epochOf L ≤ 4294967296 := by
  revert h
  refine snoc_ind (p := fun L => (∀ x ∈ L, x.1 < 4294967296) → 1 ≤ epochOf L ∧ epochOf L ≤ 4294967296) (fun _ => by simp [epochOf]) ?_ L
  intro L x ih h
  rw [epochOf_snoc]
  have := ih fun y hy => h y (by simp [hy])
  have := h x (by simp)
  omega
theorem epochOf_gt {L : List Slab3} {x : Slab3} (h : x ∈ L) : x.1 < epochOf L := by
  revert h
  refine snoc_ind (p := fun L => x ∈ L → x.1 < epochOf L) (fun h => by simp at h) ?_ L
  intro L y ih h
  rw [epochOf_snoc]
  rcases List.mem_append.1 h with h | h
  · have := ih h; omega
  · simp at h; subst h; omega
theorem slab3_ok (s : ByteArray) : (slab3 s).1 < 4294967296 ∧ (slab3 s).2.1 < 4294967296 ∧ (slab3 s).2.2.size ≤ 112 := by
  unfold slab3
  split
  · rename_i h; exact ⟨num4_lt _, num4_lt _, partB_size h⟩
  · exact ⟨by decide, by decide, Nat.zero_le _⟩
theorem ring_mem {l : Wl} {D : Dk} {k : Nat} {x : Slab3} (h : x ∈ ringOf l D k) : x.1 < 4294967296 ∧ x.2.1 < 4294967296 ∧ x.2.2.size ≤ 112 := by
  unfold ringOf at h
  obtain ⟨i, _, rfl⟩ := List.mem_map.1 h
  exact slab3_ok _
theorem wholeP_len : ∀ (a i : Nat) (L : List Slab3), (wholeP a i L).length ≤ L.length
  | _, _, [] => Nat.le_refl _
  | a, i, x :: L => by
    unfold wholeP
    split
    · have := wholeP_len x.1 (i + 1) L; simp only [List.length_cons]; omega
    · simp
theorem wholeP_mem : ∀ (a i : Nat) (L : List Slab3) (b : ByteArray), b ∈ wholeP a i L → (∃ x ∈ L, x.2.2 = b) ∧ b.size ≠ 0 ∧ (allS b).isSome = true
  | _, _, [], b, h => by simp [wholeP] at h
  | a, i, x :: L, b, h => by
    unfold wholeP at h
    split at h
    · rename_i hc
      rcases List.mem_cons.1 h with rfl | h
      · exact ⟨⟨x, by simp, rfl⟩, hc.2.1, hc.2.2.1⟩
      · obtain ⟨⟨y, hy, e⟩, h2⟩ := wholeP_mem _ _ L b h
        exact ⟨⟨y, by simp [hy], e⟩, h2⟩
    · simp at h
/-- The head that is opened. -/
def Wl.head (base n low : Nat) : Wl := { Wl.new base n with low := low }
noncomputable def Wl.opened (D : Dk) (base n low : Nat) : Wl :=
  ⟨base, n, epochOf (ringOf (Wl.head base n low) D n), low, low + (wholeP 0 low (ringOf (Wl.head base n low) D n)).length, (wholeP 0 low (ringOf (Wl.head base n low) D n)).map recsOf⟩
theorem Wl.opened_bodies (D : Dk) (base n low : Nat) : (Wl.opened D base n low).secs.map bodyS = wholeP 0 low (ringOf (Wl.head base n low) D n) := by
  unfold Wl.opened
  simp only [List.map_map]
  conv => rhs; rw [← List.map_id (wholeP 0 low (ringOf (Wl.head base n low) D n))]
  refine List.map_congr_left fun b hb => ?_
  exact (body_recs (wholeP_mem _ _ _ b hb).2.2).1
theorem Wl.Ok.opened {D : Dk} {base n low : Nat} (h8 : 8 ≤ n) (h64 : n ≤ 64) (hb : base + n ≤ 512) (hl : 1 ≤ low) (hlm : low ≤ 16777216) : (Wl.opened D base n low).Ok := by
  have he := epochOf_le (L := ringOf (Wl.head base n low) D n) fun x hx => (ring_mem hx).1
  have hlen : (wholeP 0 low (ringOf (Wl.head base n low) D n)).length ≤ n := by
    have := wholeP_len 0 low (ringOf (Wl.head base n low) D n)
    simpa [ringOf] using this
  refine ⟨h8, h64, hb, hl, by show low ≤ _; omega, Nat.le_add_right _ _, ?_, ?_, fun rs hrs => ?_, he.1, he.2⟩
  · unfold Wl.end_ Wl.opened; simp
  · unfold Wl.opened; simpa using hlen
  · unfold Wl.opened at hrs
    obtain ⟨b, hbm, rfl⟩ := List.mem_map.1 hrs
    obtain ⟨⟨x, hx, rfl⟩, h0, hs⟩ := wholeP_mem _ _ _ b hbm
    obtain ⟨h1, h2⟩ := body_recs hs
    have hsz := congrArg ByteArray.size h1
    rw [bodyS_size] at hsz
    refine ⟨fun e => ?_, h2, by rw [hsz]; exact (ring_mem hx).2.2⟩
    rw [e] at hsz
    simp [body] at hsz
    omega
/-- A cell of the head is written. -/
theorem LogR.setHead {w : World} {F : Foot} {g gd : Nat} {l l' : Wl} {vb vb' : Value} {n m : Nat} {bs cs : List ByteArray} (h : LogR w F g gd l vb n bs) (i : Nat) (v : Value) (hc : (logCells gd l vb).setIfInBounds i v = logCells gd l' vb') {F' : Foot} (hF : ∀ b, F b → F' b) (hlt : ∀ b, F' b → b < w.heap.size)
    (hr : w.ownsRow 0 9 1 vb' m (strsV cs)) (hv : ∀ b, vb'.ownBlock = some b → F' b) : LogR (w.setCell ⟨g, i, none⟩ v) F' g gd l' vb' m cs :=
  ⟨hc ▸ h.head.set i v, own_keep hr fun b hb => heap_setCell_other w ⟨g, i, none⟩ b v fun e => own_blk hr h.head (by decide) (by rw [hb, e]), hF _ h.fg, hv, fun b hb => by simpa [World.setCell] using hlt b hb⟩
theorem own_zero {w : World} {base size n : Nat} {e : TypeId} {v : Value} {xs : List Value} (h : w.ownsRow base e size v n xs) : w.ownsRow 0 e size v n xs := by
  obtain ⟨hl, h | ⟨g, cap, cur, rfl, _, h2⟩⟩ := h
  · exact ⟨hl, .inl h⟩
  · exact ⟨hl, .inr ⟨g, cap, cur, rfl, Nat.zero_le _, h2⟩⟩
section
variable {w : World} {FD : Foot} {gd : Nat} {D : Dk}
end
end Go.Proofs.Ytpcfhpffbogjmaa

/- A log behind crashes: what its disk has then, and what is opened of it; plain mathematics. -/
namespace Go.Proofs.Ytpcfhpffbogjmaa
open Go.RowKit

/-- What is read of a ring is a beginning; what stands behind it counts only behind that. -/
theorem whole_cut : ∀ (L : List Slab3) (a i : Nat), ∃ a', (a' = a ∨ ∃ x ∈ L, x.1 = a') ∧ wholeP a' (i + (wholeP a i L).length) (L.drop (wholeP a i L).length) = [] ∧
    ∀ L', L'.take (wholeP a i L).length = L.take (wholeP a i L).length → wholeP a i L' = wholeP a i L ++ wholeP a' (i + (wholeP a i L).length) (L'.drop (wholeP a i L).length)
  | [], a, i => ⟨a, .inl rfl, by simp [wholeP], fun L' _ => by simp [wholeP]⟩
  | x :: L, a, i => by
    by_cases hc : x.2.1 = i ∧ x.2.2.size ≠ 0 ∧ (allS x.2.2).isSome = true ∧ a ≤ x.1
    · obtain ⟨h1, h2, h3, h4⟩ := hc
      rw [wholeP_go h1 h2 h3 h4]
      obtain ⟨a', e1, e2, e3⟩ := whole_cut L x.1 (i + 1)
      refine ⟨a', ?_, ?_, ?_⟩
      · rcases e1 with rfl | ⟨y, hy, e⟩
        · exact .inr ⟨x, by simp, rfl⟩
        · exact .inr ⟨y, by simp [hy], e⟩
      · rw [List.length_cons, List.drop_succ_cons, show i + ((wholeP x.1 (i + 1) L).length + 1) = i + 1 + (wholeP x.1 (i + 1) L).length by omega]
        exact e2
      · intro L' h
        rw [List.length_cons, List.take_succ_cons] at h
        cases L' with
        | nil => simp at h
        | cons y L' =>
          rw [List.take_succ_cons] at h
          obtain ⟨rfl, h⟩ := List.cons.inj h
          rw [wholeP_go h1 h2 h3 h4, e3 L' h, List.length_cons, List.drop_succ_cons, show i + ((wholeP y.1 (i + 1) L).length + 1) = i + 1 + (wholeP y.1 (i + 1) L).length by omega]
          rfl
    · rw [wholeP_stop hc]
      exact ⟨a, .inl rfl, by simpa using wholeP_stop hc, fun L' _ => by simp⟩

/-- A tail of the ring of which sectors were written: each is new, or (unless all are) as it was, or none. -/
def Mix (E : Nat) (full : Prop) : Nat → List ByteArray → List Slab3 → List Slab3 → Prop
  | _, [], T, T' => T' = T
  | k, b :: bs, x :: T, y :: T' => (y = (E, k, b) ∨ (¬ full ∧ (y = x ∨ y = (0, 0, ⟨#[]⟩)))) ∧ Mix E full (k + 1) bs T T'
  | _, _ :: _, _, _ => False
theorem mix_whole {E : Nat} {full : Prop} : ∀ (k a : Nat) (bs : List ByteArray) (T T' : List Slab3), Mix E full k bs T T' → a ≤ E → (∀ x ∈ T, x.1 < E) → wholeP a k T = [] → (∀ b ∈ bs, b.size ≠ 0 ∧ (allS b).isSome = true) →
    ∃ r, r ≤ bs.length ∧ (full → r = bs.length) ∧ wholeP a k T' = bs.take r
  | k, a, [], T, T', h, _, _, h3, _ => ⟨0, Nat.le_refl _, fun _ => rfl, by rw [show T' = T from h, h3]; rfl⟩
  | k, a, b :: bs, [], _, h, _, _, _, _ => by simp [Mix] at h
  | k, a, b :: bs, x :: T, [], h, _, _, _, _ => by simp [Mix] at h
  | k, a, b :: bs, x :: T, y :: T', h, h1, h2, h3, h4 => by
    obtain ⟨hy, hm⟩ := h
    rcases hy with rfl | ⟨hf, rfl | rfl⟩
    · have hb := h4 b (by simp)
      have hT : wholeP E (k + 1) T = [] := by
        cases T with
        | nil => rfl
        | cons z T => exact wholeP_stop fun hc => by have := h2 z (by simp); have := hc.2.2.2; omega
      obtain ⟨r, r1, r2, r3⟩ := mix_whole (k + 1) E bs T T' hm (Nat.le_refl _) (fun z hz => h2 z (by simp [hz])) hT fun b' hb' => h4 b' (by simp [hb'])
      refine ⟨r + 1, by simpa using r1, fun hf => by simpa using r2 hf, ?_⟩
      rw [wholeP_go (x := (E, k, b)) rfl hb.1 hb.2 h1, List.take_succ_cons, ← r3]
    · refine ⟨0, Nat.zero_le _, fun h => absurd h hf, ?_⟩
      have : ¬ (y.2.1 = k ∧ y.2.2.size ≠ 0 ∧ (allS y.2.2).isSome = true ∧ a ≤ y.1) := fun hc => by
        rw [wholeP_go hc.1 hc.2.1 hc.2.2.1 hc.2.2.2] at h3
        cases h3
      rw [wholeP_stop this]
      rfl
    · refine ⟨0, Nat.zero_le _, fun h => absurd h hf, ?_⟩
      rw [wholeP_stop fun hc => hc.2.1 rfl]
      rfl
theorem mix_of {E : Nat} {full : Prop} : ∀ (k : Nat) (bs : List ByteArray) (T T' : List Slab3), T'.length = T.length → bs.length ≤ T.length →
    (∀ i, ∀ (h1 : i < bs.length) (h2 : i < T.length) (h3 : i < T'.length), T'[i] = (E, k + i, bs[i]) ∨ (¬ full ∧ (T'[i] = T[i] ∨ T'[i] = (0, 0, ⟨#[]⟩)))) →
    (∀ i, bs.length ≤ i → ∀ (h2 : i < T.length) (h3 : i < T'.length), T'[i] = T[i]) → Mix E full k bs T T'
  | k, [], T, T', h1, _, _, h4 => List.ext_getElem h1 fun i h2 h3 => h4 i (Nat.zero_le _) h3 h2
  | k, b :: bs, [], T', h1, h2, _, _ => by simp at h2
  | k, b :: bs, x :: T, [], h1, h2, _, _ => by simp at h1
  | k, b :: bs, x :: T, y :: T', h1, h2, h3, h4 => by
    refine ⟨h3 0 (by simp) (by simp) (by simp), mix_of (k + 1) bs T T' (by simpa using h1) (by simpa using h2) (fun i g1 g2 g3 => ?_) fun i g1 g2 g3 => ?_⟩
    · have := h3 (i + 1) (by simpa using g1) (by simpa using g2) (by simpa using g3)
      simp only [List.getElem_cons_succ] at this
      rw [show k + 1 + i = k + (i + 1) by omega]
      exact this
    · exact h4 (i + 1) (by simpa using g1) (by simpa using g2) (by simpa using g3)
theorem mix_le {E : Nat} {full : Prop} : ∀ (k : Nat) (bs : List ByteArray) (T T' : List Slab3), Mix E full k bs T T' → (∀ x ∈ T, x.1 < E) → ∀ y ∈ T', y.1 ≤ E
  | k, [], T, T', h, h2, y, hy => by rw [show T' = T from h] at hy; exact Nat.le_of_lt (h2 y hy)
  | k, b :: bs, [], _, h, _, _, _ => by simp [Mix] at h
  | k, b :: bs, x :: T, [], h, _, _, _ => by simp [Mix] at h
  | k, b :: bs, x :: T, z :: T', h, h2, y, hy => by
    obtain ⟨hz, hm⟩ := h
    rcases List.mem_cons.1 hy with rfl | hy
    · rcases hz with rfl | ⟨_, rfl | rfl⟩
      · exact Nat.le_refl _
      · exact Nat.le_of_lt (h2 y (by simp))
      · exact Nat.zero_le _
    · exact mix_le (k + 1) bs T T' hm (fun x hx => h2 x (by simp [hx])) y hy
theorem mix_lt {E : Nat} {full : Prop} : ∀ (k : Nat) (bs : List ByteArray) (T T' : List Slab3), Mix E full k bs T T' → (∀ x ∈ T, x.1 < E) → ∀ y ∈ T'.drop bs.length, y.1 < E
  | k, [], T, T', h, h2, y, hy => by rw [show T' = T from h] at hy; exact h2 y (by simpa using hy)
  | k, b :: bs, [], _, h, _, _, _ => by simp [Mix] at h
  | k, b :: bs, x :: T, [], h, _, _, _ => by simp [Mix] at h
  | k, b :: bs, x :: T, z :: T', h, h2, y, hy => by
    rw [List.length_cons, List.drop_succ_cons] at hy
    exact mix_lt (k + 1) bs T T' h.2 (fun x hx => h2 x (by simp [hx])) y hy

/-- The ring from 1 on, as it lies in sectors that are safe. -/
noncomputable def sec3 (s : List ByteArray) (base n q : Nat) : Slab3 := slab3 (s.getD (base + q % n) zero128)
noncomputable def ring3 (s : List ByteArray) (base n : Nat) : List Slab3 := (List.range n).map fun i => sec3 s base n (1 + i)
theorem ring3_len (s : List ByteArray) (base n : Nat) : (ring3 s base n).length = n := by simp [ring3]
theorem ring3_at {s : List ByteArray} {base n i : Nat} (h : i < (ring3 s base n).length) : (ring3 s base n)[i] = sec3 s base n (1 + i) := by simp [ring3]
theorem ringOf_3 {D : Dk} (hw : D.waits = []) (base n : Nat) : ringOf (Wl.head base n 1) D n = ring3 D.safe base n := by
  unfold ringOf ring3 sec3
  refine List.map_congr_left fun i _ => ?_
  unfold Dk.at_ Wl.place Wl.head Wl.new
  rw [hw, lastOf_nil]
  simp only [Option.getD_none]
  rfl
theorem zero_slab3 : slab3 zero128 = (0, 0, ⟨#[]⟩) := by
  unfold slab3
  rw [if_neg]
  exact zeros_not
theorem packed_slab3 {E k : Nat} {b : ByteArray} (hE : E < 4294967296) (hk : k < 4294967296) (hb : b.size ≤ 112) : slab3 (packed E k b) = (E, k, b) := by
  unfold slab3
  rw [if_pos (isSlab_packed hE hk hb), partE_packed hE hb, partI_packed hk hb, partB_packed hb]
theorem place_inj {n q q' : Nat} (h1 : 1 ≤ q) (h2 : q ≤ n) (h1' : 1 ≤ q') (h2' : q' ≤ n) (h : q % n = q' % n) : q = q' := by
  rcases Nat.lt_or_eq_of_le h2 with g | g
  · rcases Nat.lt_or_eq_of_le h2' with g' | g'
    · rw [Nat.mod_eq_of_lt g, Nat.mod_eq_of_lt g'] at h; exact h
    · subst g'; rw [Nat.mod_self, Nat.mod_eq_of_lt g] at h; omega
  · subst g
    rcases Nat.lt_or_eq_of_le h2' with g' | g'
    · rw [Nat.mod_self, Nat.mod_eq_of_lt g'] at h; omega
    · omega

/-- The disk has what the log says is safe, and nothing newer. -/
structure Stands (D : Dk) (l : Wl) : Prop where
  low : l.low = 1
  room : l.base + l.size ≤ D.safe.length
  waits : D.waits = []
  gone : D.gone = false
  whole : wholeP 0 1 (ring3 D.safe l.base l.size) = (l.secs.take (l.first - 1)).map bodyS
  le : ∀ x ∈ ring3 D.safe l.base l.size, x.1 ≤ l.epoch
  lt : ∀ x ∈ (ring3 D.safe l.base l.size).drop (l.first - 1), x.1 < l.epoch
namespace Stands
variable {D : Dk} {l : Wl}
theorem arm (h : Stands D l) (k : Int) : Stands (D.arm k) l := ⟨h.low, h.room, h.waits, h.gone, h.whole, h.le, h.lt⟩
theorem opened {D : Dk} {base n : Nat} (hr : base + n ≤ D.safe.length) (hw : D.waits = []) (hg : D.gone = false) : Stands D (Wl.opened D base n 1) := by
  have hb := Wl.opened_bodies D base n 1
  rw [ringOf_3 hw] at hb
  have hlen : (Wl.opened D base n 1).secs.length = (Wl.opened D base n 1).first - 1 := by
    unfold Wl.opened; simp
  have hgt : ∀ x ∈ ring3 D.safe base n, x.1 < (Wl.opened D base n 1).epoch := fun x hx => by
    show x.1 < epochOf _
    rw [ringOf_3 hw]
    exact epochOf_gt hx
  refine ⟨rfl, hr, hw, hg, ?_, fun x hx => Nat.le_of_lt (hgt x hx), fun x hx => hgt x (List.mem_of_mem_drop hx)⟩
  rw [← hlen, List.take_length]
  exact hb.symm
theorem new {n base k : Nat} (hr : base + k ≤ n) : Stands (Dk.new n) (Wl.new base k) := by
  have hz : ∀ x ∈ ring3 (Dk.new n).safe base k, x = (0, 0, ⟨#[]⟩) := fun x hx => by
    unfold ring3 at hx
    obtain ⟨i, _, rfl⟩ := List.mem_map.1 hx
    unfold sec3
    rw [show (Dk.new n).safe.getD (base + (1 + i) % k) zero128 = zero128 by
      unfold Dk.new
      rw [List.getD_eq_getElem?_getD, List.getElem?_replicate]
      split <;> rfl]
    exact zero_slab3
  refine ⟨rfl, by simpa [Dk.new, Wl.new] using hr, rfl, rfl, ?_, fun x hx => ?_, fun x hx => ?_⟩
  · show wholeP 0 1 (ring3 (Dk.new n).safe base k) = []
    cases hL : ring3 (Dk.new n).safe base k with
    | nil => rfl
    | cons x L =>
      rw [hz x (by rw [hL]; simp)]
      exact wholeP_stop fun hc => hc.2.1 rfl
  · rw [hz x hx]; exact Nat.zero_le _
  · rw [hz x (List.mem_of_mem_drop hx)]; exact Nat.one_pos
theorem put (h : Stands D l) (ok : l.Ok) (r : Rc) : Stands D (l.put r) := by
  have h1 := ok.fl
  have h2 := ok.fe
  rw [h.low] at h1
  have hl := h.low
  unfold Wl.end_ at h2
  rw [hl] at h2
  have key : (l.put r).low = l.low ∧ (l.put r).base = l.base ∧ (l.put r).size = l.size ∧ (l.put r).epoch = l.epoch ∧ (l.put r).first = l.first ∧ (l.put r).secs.take (l.first - 1) = l.secs.take (l.first - 1) := by
    unfold Wl.put
    split
    · rename_i hj
      refine ⟨rfl, rfl, rfl, rfl, rfl, ?_⟩
      have hlt := hj.1
      unfold Wl.end_ at hlt
      rw [hl] at hlt
      simp only
      rw [List.take_append_of_le_length (by rw [List.length_dropLast]; omega), List.dropLast_eq_take, List.take_take]
      congr 1
      omega
    · split
      · exact ⟨rfl, rfl, rfl, rfl, rfl, List.take_append_of_le_length (by omega)⟩
      · exact ⟨rfl, rfl, rfl, rfl, rfl, rfl⟩
  obtain ⟨k1, k2, k3, k4, k5, k6⟩ := key
  refine ⟨by rw [k1, hl], by rw [k2, k3]; exact h.room, h.waits, h.gone, ?_, ?_, ?_⟩
  · rw [k2, k3, k5, k6]; exact h.whole
  · rw [k2, k3, k4]; exact h.le
  · rw [k2, k3, k4, k5]; exact h.lt
end Stands

/-- Writes of sectors, one behind the other. -/
def Wl.pairs (l : Wl) (f j : Nat) : List (Nat × ByteArray) := (List.range' f j).map fun q => (l.place q, l.sector q)
theorem Wl.pairs_cons (l : Wl) (f j : Nat) : l.pairs f (j + 1) = (l.place f, l.sector f) :: l.pairs (f + 1) j := by simp [Wl.pairs, List.range'_succ]
theorem writes_is (l : Wl) : ∀ (c : Nat) (D : Dk) (f : Nat), D.gone = false → (∀ q, f ≤ q → q < f + c → l.place q < D.safe.length ∧ (l.sector q).size = 128) →
    ∃ j, j ≤ c ∧ (l.writes D f c).1.safe = D.safe ∧ (l.writes D f c).1.waits = D.waits ++ l.pairs f j ∧ ((l.writes D f c).2 = 0 → j = c ∧ (l.writes D f c).1.gone = false) ∧ (D.fuse = none → (l.writes D f c).1.fuse = none ∧ (l.writes D f c).2 = 0)
  | 0, D, f, hg, _ => ⟨0, Nat.le_refl _, rfl, by simp [Wl.pairs, Wl.writes], fun _ => ⟨rfl, hg⟩, fun h => ⟨h, rfl⟩⟩
  | c + 1, D, f, hg, hq => by
    obtain ⟨h1, h2⟩ := hq f (Nat.le_refl _) (by omega)
    have has : D.has ((l.place f : Nat) : Int) := ⟨by omega, by omega⟩
    by_cases hb : D.bears = true
    · have e0 : D.writeE (l.place f) (l.sector f) = 0 := by unfold Dk.writeE; rw [if_pos has, if_pos h2, if_pos hb]
      have e1 : D.write (l.place f) (l.sector f) = { D.burn with waits := D.waits ++ [(l.place f, l.sector f)] } := by unfold Dk.write; rw [if_pos has, if_pos h2, if_pos hb]; rfl
      have e2 : l.writes D f (c + 1) = l.writes (D.write (l.place f) (l.sector f)) (f + 1) c := by rw [Wl.writes, if_pos e0]
      have hs : (D.write (l.place f) (l.sector f)).safe = D.safe := by rw [e1]; exact Dk.burn_safe D
      have hgone : (D.write (l.place f) (l.sector f)).gone = false := by rw [e1]; show D.burn.gone = false; unfold Dk.burn; rw [if_pos hb]; exact hg
      obtain ⟨j, j1, j2, j3, j4, j5⟩ := writes_is l c (D.write (l.place f) (l.sector f)) (f + 1) hgone fun q q1 q2 => by rw [hs]; exact hq q (by omega) (by omega)
      refine ⟨j + 1, by omega, by rw [e2, j2, hs], ?_, fun h => ?_, fun h => ?_⟩
      · rw [e2, j3, Wl.pairs_cons, e1]; simp
      · rw [e2] at h ⊢
        obtain ⟨q1, q2⟩ := j4 h
        exact ⟨by omega, q2⟩
      · rw [e2]
        refine j5 ?_
        rw [e1]
        show D.burn.fuse = none
        unfold Dk.burn
        rw [if_pos hb, h]
        rfl
    · have e0 : D.writeE (l.place f) (l.sector f) = 4 := by unfold Dk.writeE; rw [if_pos has, if_pos h2, if_neg hb]
      have e1 : D.write (l.place f) (l.sector f) = D.burn := by unfold Dk.write; rw [if_pos has, if_pos h2, if_neg hb]
      have e2 : l.writes D f (c + 1) = (D.burn, 4) := by rw [Wl.writes, if_neg (by rw [e0]; decide), e0, e1]
      refine ⟨0, Nat.zero_le _, by rw [e2]; exact Dk.burn_safe D, by rw [e2]; simp [Wl.pairs, Dk.burn_waits], fun h => ?_, fun h => ?_⟩
      · rw [e2] at h; cases h
      · exact absurd (show D.bears = true by unfold Dk.bears; rw [hg, h]; rfl) hb

/-- What is settled: sector by sector. -/
theorem settle_sec (l : Wl) (f j : Nat) (ft : Nat → Nat) (s : List ByteArray) (hs : l.base + l.size ≤ s.length) (hf : 1 ≤ f) (hj : f + j ≤ l.size + 1) (q : Nat) (h1 : 1 ≤ q) (h2 : q ≤ l.size) : ∀ k, k ≤ j →
    (settleTo ft (l.pairs f j) s k).getD (l.base + q % l.size) zero128 = if f ≤ q ∧ q < f + k then (if ft (q - f) = 1 then l.sector q else if ft (q - f) = 2 then zero128 else s.getD (l.base + q % l.size) zero128) else s.getD (l.base + q % l.size) zero128
  | 0, _ => by rw [if_neg (by omega)]; rfl
  | k + 1, hk => by
    have hlen : (l.pairs f j).length = j := by simp [Wl.pairs]
    have hget : (l.pairs f j)[k]'(by omega) = (l.place (f + k), l.sector (f + k)) := by simp [Wl.pairs]
    have ih := settle_sec l f j ft s hs hf hj q h1 h2 k (by omega)
    have hpq : l.base + q % l.size < (settleTo ft (l.pairs f j) s k).length := by rw [settleTo_len]; have := Nat.mod_lt q (show 0 < l.size by omega); omega
    rw [settleTo_succ _ _ _ _ (by omega), hget]
    by_cases hq : q = f + k
    · subst hq
      rw [if_neg (by omega)] at ih
      rw [if_pos (by omega), Nat.add_sub_cancel_left]
      unfold settleOne Wl.place
      by_cases t1 : ft k = 1
      · rw [if_pos t1, if_pos t1, List.getD_eq_getElem?_getD, List.getElem?_set_self hpq]; rfl
      · rw [if_neg t1, if_neg t1]
        by_cases t2 : ft k = 2
        · rw [if_pos t2, if_pos t2, List.getD_eq_getElem?_getD, List.getElem?_set_self hpq]; rfl
        · rw [if_neg t2, if_neg t2, ih]
    · have hne : l.place (f + k) ≠ l.base + q % l.size := fun e => hq (place_inj h1 h2 (by omega) (by omega) (Nat.add_left_cancel (show l.base + q % l.size = l.base + (f + k) % l.size from e.symm)))
      have hset : ∀ x, ((settleTo ft (l.pairs f j) s k).set (l.place (f + k)) x).getD (l.base + q % l.size) zero128 = (settleTo ft (l.pairs f j) s k).getD (l.base + q % l.size) zero128 := fun x => by
        rw [List.getD_eq_getElem?_getD, List.getElem?_set_ne hne, ← List.getD_eq_getElem?_getD]
      have : (settleOne (ft k) (l.place (f + k), l.sector (f + k)) (settleTo ft (l.pairs f j) s k)).getD (l.base + q % l.size) zero128 = (settleTo ft (l.pairs f j) s k).getD (l.base + q % l.size) zero128 := by
        unfold settleOne
        split
        · exact hset _
        · split
          · exact hset _
          · rfl
      rw [this, ih]
      by_cases hin : f ≤ q ∧ q < f + k
      · have hin2 : f ≤ q ∧ q < f + (k + 1) := by omega
        rw [if_pos hin, if_pos hin2]
      · have hin2 : ¬ (f ≤ q ∧ q < f + (k + 1)) := by omega
        rw [if_neg hin, if_neg hin2]
end Go.Proofs.Ytpcfhpffbogjmaa

/- A log behind flushes and crashes; plain mathematics. -/
namespace Go.Proofs.Ytpcfhpffbogjmaa
open Go.RowKit

namespace Stands
variable {D : Dk} {l : Wl}
theorem bodies (ok : l.Ok) (i : Nat) (h : i < l.secs.length) : (bodyS l.secs[i]).size ≤ 112 ∧ (bodyS l.secs[i]).size ≠ 0 ∧ (allS (bodyS l.secs[i])).isSome = true ∧ recsOf (bodyS l.secs[i]) = l.secs[i] := by
  obtain ⟨h1, h2, h3⟩ := ok.sec _ (List.getElem_mem h)
  refine ⟨by rw [bodyS_size]; exact h3, by rw [bodyS_size]; exact Nat.ne_of_gt (body_pos h2 h1), ?_, recsOf_body h2⟩
  show (allL _ _ _).isSome = true
  rw [allS_body h2]; rfl
theorem sector_at (h : Stands D l) (i : Nat) (hi : i < l.secs.length) : l.sector (1 + i) = packed l.epoch (1 + i) (bodyS l.secs[i]) := by
  unfold Wl.sector
  rw [h.low, Nat.add_sub_cancel_left, List.getD_eq_getElem?_getD, List.getElem?_eq_getElem hi]
  rfl
theorem first1 (h : Stands D l) (ok : l.Ok) : 1 ≤ l.first ∧ l.first - 1 ≤ l.secs.length ∧ l.end_ = 1 + l.secs.length := by
  have h1 := ok.fl
  have h2 := ok.fe
  unfold Wl.end_ at *
  rw [h.low] at *
  omega
theorem whole_len (h : Stands D l) (ok : l.Ok) : (wholeP 0 1 (ring3 D.safe l.base l.size)).length = l.first - 1 := by
  obtain ⟨h1, h2, h3⟩ := h.first1 ok
  rw [h.whole, List.length_map, List.length_take]
  omega
/-- Behind writes of j sectors, settled each by its fate. -/
theorem written (h : Stands D l) (ok : l.Ok) (hE : l.epoch < 4294967296) (j : Nat) (hj : l.first + j ≤ l.end_) (ft : Nat → Nat) (full : Prop) (hf : full → ∀ t, t < j → ft t = 1) :
    ∃ r, r ≤ j ∧ (full → r = j) ∧ wholeP 0 1 (ring3 (settleTo ft (l.pairs l.first j) D.safe j) l.base l.size) = (l.secs.take (l.first - 1 + r)).map bodyS ∧
      (∀ x ∈ ring3 (settleTo ft (l.pairs l.first j) D.safe j) l.base l.size, x.1 ≤ l.epoch) ∧ (∀ x ∈ (ring3 (settleTo ft (l.pairs l.first j) D.safe j) l.base l.size).drop (l.first - 1 + j), x.1 < l.epoch) := by
  obtain ⟨f1, f2, f3⟩ := h.first1 ok
  have hsz := ok.len
  have h64 := ok.s64
  have set := fun (q : Nat) (q1 : 1 ≤ q) (q2 : q ≤ l.size) => settle_sec l l.first j ft D.safe h.room f1 (by omega) q q1 q2 j (Nat.le_refl _)
  have hm := h.whole_len ok
  generalize hs' : settleTo ft (l.pairs l.first j) D.safe j = s' at *
  generalize hmm : l.first - 1 = m at *
  have hfm : l.first = 1 + m := by omega
  have hL : (ring3 D.safe l.base l.size).length = l.size := ring3_len _ _ _
  have hL' : (ring3 s' l.base l.size).length = l.size := ring3_len _ _ _
  have old : ∀ i, ∀ (g : i < (ring3 s' l.base l.size).length) (g' : i < (ring3 D.safe l.base l.size).length), ¬ (m ≤ i ∧ i < m + j) → (ring3 s' l.base l.size)[i] = (ring3 D.safe l.base l.size)[i] := fun i g g' hi => by
    rw [ring3_at, ring3_at]
    unfold sec3
    rw [set (1 + i) (by omega) (by omega), if_neg (by omega)]
  have htake : (ring3 s' l.base l.size).take m = (ring3 D.safe l.base l.size).take m := by
    refine List.ext_getElem (by simp [hL, hL']) fun i g1 g2 => ?_
    rw [List.length_take] at g1 g2
    rw [List.getElem_take, List.getElem_take]
    exact old i _ _ (by omega)
  let bs := ((l.secs.drop m).take j).map bodyS
  have hbs : bs.length = j := by simp [bs]; omega
  have bat : ∀ i, (g : i < j) → ∀ g2 : i < bs.length, bs[i] = bodyS (l.secs[m + i]'(by omega)) := fun i g g2 => by simp [bs]
  have hmix : Mix l.epoch full (1 + m) bs ((ring3 D.safe l.base l.size).drop m) ((ring3 s' l.base l.size).drop m) := by
    refine mix_of (1 + m) bs _ _ (by simp [hL, hL']) (by simp [hL, hbs]; omega) (fun i g1 g2 g3 => ?_) fun i g1 g2 g3 => ?_
    · rw [List.length_drop] at g2 g3
      rw [List.getElem_drop, List.getElem_drop, ring3_at, ring3_at, bat i (by omega)]
      have hi : m + i < l.secs.length := by omega
      obtain ⟨b1, b2, b3, b4⟩ := bodies ok (m + i) hi
      have hsec := h.sector_at (m + i) hi
      have e := set (1 + (m + i)) (by omega) (by omega)
      rw [if_pos (by omega)] at e
      have e2 : sec3 s' l.base l.size (1 + (m + i)) = slab3 (if ft (1 + (m + i) - l.first) = 1 then l.sector (1 + (m + i)) else if ft (1 + (m + i) - l.first) = 2 then zero128 else D.safe.getD (l.base + (1 + (m + i)) % l.size) zero128) := by
        unfold sec3; rw [e]
      rw [e2]
      by_cases t1 : ft (1 + (m + i) - l.first) = 1
      · rw [if_pos t1, hsec, packed_slab3 hE (by omega) b1]
        exact .inl (by rw [Nat.add_assoc])
      · rw [if_neg t1]
        refine .inr ⟨fun hfull => t1 (hf hfull _ (by omega)), ?_⟩
        by_cases t2 : ft (1 + (m + i) - l.first) = 2
        · rw [if_pos t2, zero_slab3]; exact .inr rfl
        · rw [if_neg t2]; exact .inl rfl
    · rw [List.getElem_drop, List.getElem_drop]
      exact old (m + i) _ _ (by omega)
  have hlt := h.lt
  rw [hmm] at hlt
  obtain ⟨a', e1, e2, e3⟩ := whole_cut (ring3 D.safe l.base l.size) 0 1
  rw [hm] at e2 e3
  have ha : a' ≤ l.epoch := by
    rcases e1 with rfl | ⟨x, hx, rfl⟩
    · exact Nat.zero_le _
    · exact h.le x hx
  have hgood : ∀ b ∈ bs, b.size ≠ 0 ∧ (allS b).isSome = true := fun b hb => by
    obtain ⟨i, hi, rfl⟩ := List.getElem_of_mem hb
    rw [bat i (by omega)]
    have := bodies ok (m + i) (by omega)
    exact ⟨this.2.1, this.2.2.1⟩
  obtain ⟨r, r1, r2, r3⟩ := mix_whole (1 + m) a' bs _ _ hmix ha hlt e2 hgood
  refine ⟨r, by omega, fun hfull => by rw [r2 hfull, hbs], ?_, fun x hx => ?_, fun x hx => ?_⟩
  · rw [e3 _ htake, r3, h.whole, hmm]
    show (l.secs.take m).map bodyS ++ (((l.secs.drop m).take j).map bodyS).take r = _
    rw [← List.map_take, List.take_take, Nat.min_eq_left (by omega), ← List.map_append, ← List.take_add]
  · rw [← List.take_append_drop m (ring3 s' l.base l.size)] at hx
    rcases List.mem_append.1 hx with hx | hx
    · rw [htake] at hx
      exact h.le x (List.mem_of_mem_take hx)
    · exact mix_le _ _ _ _ hmix hlt x hx
  · have := mix_lt _ _ _ _ hmix hlt x
    rw [List.drop_drop, hbs] at this
    exact this hx
end Stands

/-- What a flush comes to, of a disk with power. -/
theorem flush_shape {D : Dk} {l : Wl} (h : Stands D l) (ok : l.Ok) :
    ((l.flush D).2.2 = 0 ∧ (l.flush D).2.1 = { l with first := l.end_ } ∧ (l.flush D).1.waits = [] ∧ (l.flush D).1.gone = false ∧ (l.flush D).1.safe = settleTo (fun _ => 1) (l.pairs l.first (l.end_ - l.first)) D.safe (l.end_ - l.first) ∧ (D.fuse = none → (l.flush D).1.fuse = none)) ∨
    ((l.flush D).2.2 ≠ 0 ∧ (l.flush D).2.1 = l ∧ D.fuse ≠ none ∧ ∃ j, l.first + j ≤ l.end_ ∧ (l.flush D).1.safe = D.safe ∧ (l.flush D).1.waits = l.pairs l.first j) := by
  obtain ⟨f1, f2, f3⟩ := h.first1 ok
  have hfe := ok.fe
  unfold Wl.flush
  by_cases he : l.end_ = l.first
  · rw [if_pos he]
    refine .inl ⟨rfl, by rw [he], h.waits, h.gone, ?_, id⟩
    rw [he, Nat.sub_self]
    rfl
  · rw [if_neg he]
    have hq : ∀ q, l.first ≤ q → q < l.first + (l.end_ - l.first) → l.place q < D.safe.length ∧ (l.sector q).size = 128 := fun q q1 q2 => by
      refine ⟨?_, ?_⟩
      · have := h.room
        have := Nat.mod_lt q (show 0 < l.size by have := ok.s8; omega)
        unfold Wl.place
        omega
      · have hi : q - 1 < l.secs.length := by omega
        have := h.sector_at (q - 1) hi
        rw [show 1 + (q - 1) = q by omega] at this
        rw [this]
        exact packed_size (Stands.bodies ok _ hi).1
    obtain ⟨j, j1, j2, j3, j4, j5⟩ := writes_is l (l.end_ - l.first) D l.first h.gone hq
    rw [h.waits, List.nil_append] at j3
    generalize l.writes D l.first (l.end_ - l.first) = x at *
    by_cases hx : x.2 ≠ 0
    · rw [if_pos hx]
      exact .inr ⟨hx, rfl, fun hn => hx (j5 hn).2, j, by omega, j2, j3⟩
    · rw [if_neg hx]
      have hx0 : x.2 = 0 := Decidable.not_not.1 hx
      obtain ⟨rfl, hg⟩ := j4 hx0
      by_cases hb : x.1.bears = true
      · have e0 : x.1.syncE = 0 := by unfold Dk.syncE; rw [if_pos hb]
        rw [if_neg (by rw [e0]; simp)]
        have e1 : x.1.sync = { x.1.burn with safe := x.1.settled fun _ => 1, waits := [] } := by unfold Dk.sync; rw [if_pos hb]
        refine .inl ⟨rfl, rfl, by rw [e1], ?_, ?_, fun hn => ?_⟩
        · rw [e1]; show x.1.burn.gone = false; unfold Dk.burn; rw [if_pos hb]; exact hg
        · rw [e1]
          show x.1.settled (fun _ => 1) = _
          unfold Dk.settled
          rw [j2, j3]
          congr 1
          simp [Wl.pairs]
        · rw [e1]
          show x.1.burn.fuse = none
          unfold Dk.burn
          rw [if_pos hb, (j5 hn).1]
          rfl
      · have e0 : x.1.syncE = 4 := by unfold Dk.syncE; rw [if_neg hb]
        have e1 : x.1.sync = x.1.burn := by unfold Dk.sync; rw [if_neg hb]
        rw [if_pos (by rw [e0]; simp)]
        refine .inr ⟨by rw [e0]; simp, rfl, fun hn => hb ?_, l.end_ - l.first, by omega, by rw [e1, Dk.burn_safe]; exact j2, by rw [e1, Dk.burn_waits]; exact j3⟩
        unfold Dk.bears
        rw [hg, (j5 hn).1]
        rfl
namespace Stands
variable {D : Dk} {l : Wl}
/-- Behind a flush that was borne. -/
theorem flushed (h : Stands D l) (ok : l.Ok) (hE : l.epoch < 4294967296) (h0 : (l.flush D).2.2 = 0) : (l.flush D).2.1 = { l with first := l.end_ } ∧ Stands (l.flush D).1 { l with first := l.end_ } ∧ (D.fuse = none → (l.flush D).1.fuse = none) ∧ (l.flush D).1.safe.length = D.safe.length := by
  obtain ⟨f1, f2, f3⟩ := h.first1 ok
  have hfe := ok.fe
  rcases flush_shape h ok with ⟨_, h2, h3, h4, h5, h6⟩ | ⟨h1, _⟩
  · obtain ⟨r, r1, r2, r3, r4, r5⟩ := h.written ok hE (l.end_ - l.first) (by omega) (fun _ => 1) True fun _ _ _ => rfl
    have hr := r2 trivial
    subst hr
    refine ⟨h2, ⟨h.low, ?_, h3, h4, ?_, ?_, ?_⟩, h6, by rw [h5, settleTo_len]⟩
    · rw [h5, settleTo_len]; exact h.room
    · rw [h5]
      show _ = (l.secs.take (l.end_ - 1)).map bodyS
      rw [r3, show l.first - 1 + (l.end_ - l.first) = l.end_ - 1 by omega]
    · rw [h5]; exact r4
    · rw [h5]
      show ∀ x ∈ (ring3 _ l.base l.size).drop (l.end_ - 1), _
      rw [show l.end_ - 1 = l.first - 1 + (l.end_ - l.first) by omega]
      exact r5
  · exact absurd h0 h1
theorem flush_ok (h : Stands D l) (ok : l.Ok) (hn : D.fuse = none) : (l.flush D).2.2 = 0 := by
  rcases flush_shape h ok with ⟨h1, _⟩ | ⟨_, _, h3, _⟩
  · exact h1
  · exact absurd hn h3
theorem secs_of {s t : List (List Rc)} (h : s.map bodyS = t.map bodyS) (hs : ∀ rs ∈ s, ∀ r ∈ rs, May r) (ht : ∀ rs ∈ t, ∀ r ∈ rs, May r) : s = t := by
  have h2 := congrArg (List.map recsOf) h
  rw [List.map_map, List.map_map] at h2
  have e : ∀ u : List (List Rc), (∀ rs ∈ u, ∀ r ∈ rs, May r) → u.map (recsOf ∘ bodyS) = u := fun u hu => by
    conv => rhs; rw [← List.map_id u]
    exact List.map_congr_left fun rs hrs => recsOf_body (hu rs hrs)
  rwa [e s hs, e t ht] at h2
/-- Behind a flush, and a crash: what is opened. -/
theorem crashed (h : Stands D l) (ok : l.Ok) (hE : l.epoch < 4294967296) (p : List UInt8) (hD : D.safe.length ≤ 512) :
    ∃ m, l.first - 1 ≤ m ∧ m ≤ l.secs.length ∧ (Wl.opened ((l.flush D).1.crash p) l.base l.size 1).secs = l.secs.take m ∧ ((l.flush D).2.2 = 0 → m = l.secs.length) ∧
      Stands ((l.flush D).1.crash p) (Wl.opened ((l.flush D).1.crash p) l.base l.size 1) ∧ (Wl.opened ((l.flush D).1.crash p) l.base l.size 1).epoch ≤ l.epoch + 1 ∧ ((l.flush D).1.crash p).safe.length = D.safe.length := by
  obtain ⟨f1, f2, f3⟩ := h.first1 ok
  have hfe := ok.fe
  have key : ∃ j ft, l.first + j ≤ l.end_ ∧ ((l.flush D).1.crash p).safe = settleTo ft (l.pairs l.first j) D.safe j ∧ ((l.flush D).2.2 = 0 → (∀ t, t < j → ft t = 1) ∧ l.first + j = l.end_) := by
    rcases flush_shape h ok with ⟨_, h2, h3, h4, h5, h6⟩ | ⟨h1, h2, h3, j, j1, j2, j3⟩
    · refine ⟨l.end_ - l.first, fun _ => 1, by omega, ?_, fun _ => ⟨fun _ _ => rfl, by omega⟩⟩
      show (l.flush D).1.settled _ = _
      unfold Dk.settled
      rw [h3, ← h5]
      rfl
    · refine ⟨j, fate p, j1, ?_, fun h0 => absurd h0 h1⟩
      show (l.flush D).1.settled _ = _
      unfold Dk.settled
      rw [j2, j3]
      congr 1
      simp [Wl.pairs]
  obtain ⟨j, ft, k1, k2, k3⟩ := key
  have hlen : ((l.flush D).1.crash p).safe.length = D.safe.length := by rw [k2, settleTo_len]
  have hroom : l.base + l.size ≤ ((l.flush D).1.crash p).safe.length := by rw [hlen]; exact h.room
  have hst : Stands ((l.flush D).1.crash p) (Wl.opened ((l.flush D).1.crash p) l.base l.size 1) := Stands.opened hroom rfl rfl
  obtain ⟨r, r1, r2, r3, r4, r5⟩ := h.written ok hE j k1 ft ((l.flush D).2.2 = 0) fun h0 => (k3 h0).1
  rw [← k2] at r3 r4 r5
  have hbod := Wl.opened_bodies ((l.flush D).1.crash p) l.base l.size 1
  rw [ringOf_3 (show ((l.flush D).1.crash p).waits = [] from rfl), r3] at hbod
  have hokO : (Wl.opened ((l.flush D).1.crash p) l.base l.size 1).Ok := Wl.Ok.opened ok.s8 ok.s64 (by have := h.room; omega) (Nat.le_refl _) (by decide)
  refine ⟨l.first - 1 + r, by omega, by omega, ?_, fun h0 => ?_, hst, ?_, hlen⟩
  · exact secs_of hbod (fun rs hrs => (hokO.sec rs hrs).2.1) fun rs hrs => (ok.sec rs (List.mem_of_mem_take hrs)).2.1
  · have := r2 h0
    have := (k3 h0).2
    omega
  · show epochOf _ ≤ _
    rw [ringOf_3 (show ((l.flush D).1.crash p).waits = [] from rfl)]
    have hle : ∀ (L : List Slab3) (E : Nat), 1 ≤ E + 1 → (∀ x ∈ L, x.1 ≤ E) → epochOf L ≤ E + 1 := fun L E => by
      refine snoc_ind (p := fun L => 1 ≤ E + 1 → (∀ x ∈ L, x.1 ≤ E) → epochOf L ≤ E + 1) (fun h _ => h) (fun L x ih h hx => ?_) L
      rw [epochOf_snoc]
      have := ih h fun y hy => hx y (by simp [hy])
      have := hx x (by simp)
      omega
    exact hle _ _ (by omega) r4
end Stands
end Go.Proofs.Ytpcfhpffbogjmaa

/- Package wal: Scan. -/
namespace Go.Proofs.Ytpcfhpffbogjmaa
open Go.RowKit

namespace Wl
/-- What a scan still brings from the sector k on. -/
def rest (l : Wl) (from_ : Int) (k : Nat) : List Ent := (allFrom k (l.secs.drop (k - l.low))).filter fun x => decide (from_ ≤ x.1)
theorem rest_end (l : Wl) (f : Int) (k : Nat) (h : l.end_ ≤ k) : l.rest f k = [] := by
  unfold rest
  rw [List.drop_of_length_le (by unfold end_ at h; omega)]
  rfl
theorem rest_step (l : Wl) (f : Int) (k : Nat) (h1 : l.low ≤ k) (h2 : k < l.end_) : l.rest f k = (l.entries k).filter (fun x => decide (f ≤ x.1)) ++ l.rest f (k + 1) := by
  have hlt : k - l.low < l.secs.length := by unfold end_ at h2; omega
  unfold rest
  rw [List.drop_eq_getElem_cons hlt, show k + 1 - l.low = k - l.low + 1 by omega]
  simp only [allFrom, List.filter_append]
  congr 2
  unfold entries
  rw [if_pos ⟨by omega, by omega⟩, Int.toNat_natCast, List.getD_eq_getElem?_getD, List.getElem?_eq_getElem hlt, Int.natCast_mul]
  rfl
theorem rest_low (l : Wl) (f : Int) : l.rest f l.low = l.scan f := by
  unfold rest scan all
  rw [Nat.sub_self]
  rfl
theorem entries_lt {l : Wl} (h : l.Ok) (k : Nat) : ∀ x ∈ l.entries k, x.1 < (k : Int) * 128 + 128 := fun x hx => by
  unfold entries at hx
  split at hx
  · rename_i hc
    have hlt : k - l.low < l.secs.length := by have := hc.2; unfold end_ at this; omega
    have hmem : l.secs.getD ((k : Int).toNat - l.low) [] ∈ l.secs := by
      rw [Int.toNat_natCast, List.getD_eq_getElem?_getD, List.getElem?_eq_getElem hlt]
      exact List.getElem_mem hlt
    obtain ⟨_, hm, h112⟩ := h.sec _ hmem
    have h112' : ((l.secs.getD ((k : Int).toNat - l.low) []).flatMap lay).length ≤ 112 := h112
    have := entsOf_ge _ _ hm x hx
    omega
  · simp at hx
/-- Sectors that end ahead of a place bring nothing. -/
theorem rest_skip {l : Wl} (h : l.Ok) (f : Int) (s : Nat) (hs : (s : Int) * 128 ≤ f ∨ s ≤ l.low) : ∀ (d k : Nat), s - k = d → l.low ≤ k → k ≤ s → l.rest f k = l.rest f s := by
  intro d
  induction d with
  | zero => intro k hd h1 h2; rw [show k = s by omega]
  | succ d ih =>
    intro k hd h1 h2
    rw [← ih (k + 1) (by omega) (by omega) (by omega)]
    by_cases hk : k < l.end_
    · rw [rest_step l f k h1 hk]
      have : (l.entries k).filter (fun x => decide (f ≤ x.1)) = [] := by
        rw [List.filter_eq_nil_iff]
        intro x hx
        have := entries_lt h k x hx
        simp
        omega
      rw [this, List.nil_append]
    · rw [rest_end l f k (by omega), rest_end l f (k + 1) (by omega)]
end Wl
theorem FreshQ.apart {B' : Nat} {v : Value} {qe : List Qe} (h : FreshQ B' qe) (hv : ∀ b, v.ownBlock = some b → b < B') : ∀ x ∈ qe, Apart v x := fun x hx b hb =>
  ⟨fun hr e => by have := (h x hx).1 hr b e; have := hv b hb; omega, fun hr e => by have := (h x hx).2 hr b e; have := hv b hb; omega⟩
/-- Another list of one's own grew. -/
theorem OwnE.grown {w w' : World} {B : Nat} {ve v : Value} {qe : List Qe} (h : OwnE w B ve qe) (hg : w.grownBy w' v.ownBlock) (hne : ∀ b, v.ownBlock = some b → ve.ownBlock ≠ some b) (ha : ∀ x ∈ qe, Apart v x) : OwnE w' B ve qe := by
  have hon : Only (fun b => v.ownBlock = some b) w w' := (Only.refl _ w).grown hg fun b hb => .inl hb
  exact ⟨own_only h.own hon fun b hb e => hne b e hb, fun x hx => (h.lists x hx).keepA hon (fun hr b hb e => (ha x hx b e).1 hr hb) (fun hr b hb e => (ha x hx b e).2 hr hb), h.apart⟩
section
variable {w : World} {F : Foot} {g gd : Nat} {l : Wl}
theorem entries_count {l : Wl} (h : l.Ok) (k : Int) : (l.entries k).length ≤ 112 := by
  unfold Wl.entries
  split
  · rename_i hc
    have hlt : k.toNat - l.low < l.secs.length := by have := hc.2; unfold Wl.end_ at this; omega
    have hmem : l.secs.getD (k.toNat - l.low) [] ∈ l.secs := by
      rw [List.getD_eq_getElem?_getD, List.getElem?_eq_getElem hlt]
      exact List.getElem_mem hlt
    obtain ⟨_, hm, h112⟩ := h.sec _ hmem
    rw [entsOf_len]
    exact Nat.le_trans (body_count _ hm) h112
  · exact Nat.zero_le _
set_option maxRecDepth 100000 in
set_option maxHeartbeats 8000000 in
theorem scan_from (h : IsLog w F g gd l) (from_ : Int) (d : Int) (hd : IntKind.i64.wrap (from_.tdiv 128) = d) (s : Nat) (hs : (d ≤ l.low ∧ s = l.low) ∨ ((l.low : Int) < d ∧ (s : Int) = d)) (hs2 : l.rest from_ s = l.scan from_) (hsm : s ≤ 144115188075855872) :
    Calls Try.prog 37 #[.pointer (some ⟨g, 0, none⟩), .int .i64 from_] w (EntsOut w (l.scan from_)) := by
  have HLOG := Lib.hid h
  have HS2 := Lib.hid hs2
  have HD := Lib.hid hd
  have c4 := h.zero.cells.2.2.2
  have ok := h.1
  have hlm : (l.low : Int) ≤ 2147483647 := by have := ok.lm; omega
  have hem : (l.end_ : Int) ≤ 2147483711 := by have := ok.lm; have := ok.len; have := ok.s64; unfold Wl.end_; omega
  have hels : l.end_ ≤ l.low + 64 := by have := ok.len; have := ok.s64; unfold Wl.end_; omega
  have hsl : l.low ≤ s := by omega
  have hmax : (if (l.low : Int) < d then d else (l.low : Int)) = (s : Int) := by split <;> omega
  clear h hs2 ok hs
  go_enter Try.func37, Try.ntmps37
  go_wp2_with fail
  clear hmax hd c4
  have hsi : (s : Int) ≤ 144115188075855872 := by omega
  go_loopg [5, 6] (l.end_ - s) (fun n v vk wr => ∃ (k : Nat) (q : List Qe), vk = .int .i64 k ∧ n = l.end_ - k ∧ s ≤ k ∧ k ≤ 144115188075855872 + 64 ∧ (k ≤ s ∨ k ≤ l.end_) ∧ OwnE wr w.heap.size v q ∧ q.map Qe.ent ++ l.rest from_ k = l.scan from_ ∧ q.length ≤ 112 * (k - s) ∧ Below w.heap.size w wr ∧ FreshQ w.heap.size q)
  case atStart => exact ⟨s, [], rfl, rfl, Nat.le_refl _, by omega, .inl (Nat.le_refl _), OwnE.nil _ _, HS2.out, Nat.zero_le _, Below.refl _ _, FreshQ.nil _⟩
  case round =>
    obtain ⟨k, q, rfl, hgk, hsk, hk1, hk2, ho, hq, hql, hB, hfq⟩ := hrel
    have HFQ := Lib.hid hfq
    clear hfq
    have HO := Lib.hid ho
    have HQ := Lib.hid hq
    have HB := Lib.hid hB
    have HGK := Lib.hid hgk
    have HE := Lib.hid (end_any (HLOG.out.below hB))
    have hki : (k : Int) ≤ 144115188075855936 := by omega
    clear ho hq hB hgk
    by_cases hlt : k < l.end_
    · have HEN : Hid (∀ m, Calls Try.prog 54 #[.pointer (some ⟨g, 0, none⟩), .int .i64 k] (wr.drewN m) (EntsOut (wr.drewN m) (l.entries k))) := fun m => entries_any ((HLOG.out.below HB.out).below (drewN_below wr m)) k
      have hec := entries_count HLOG.out.1 (k : Int)
      have hstep := Wl.rest_step l from_ k (by omega) hlt
      have HSTEP := Lib.hid hstep
      have hlti : (k : Int) < l.end_ := by omega
      clear hstep
      generalize l.entries (k : Int) = es at *
      go_wp2_with fail
      refine HE.out.mono ?_
      rintro e w1 ⟨rfl, n1, rfl⟩
      go_wp2_with fail
      refine (HEN.out _).mono ?_
      rintro e w2 ⟨ve, qe, rfl, hqe, hoe, hbe, hfe⟩
      have HO2 := Lib.hid (HO.out.keep ((drewN_below wr n1).trans (hbe.mono (Nat.le_refl _))))
      have HB2 := Lib.hid (below2 HB.out ((drewN_below wr n1).trans (hbe.mono (Nat.le_refl _))))
      have hqel : qe.length ≤ 112 := by rw [← hqe, List.length_map] at hec; exact hec
      have HQE := Lib.hid hqe
      have hsz : w.heap.size ≤ (wr.drewN n1).heap.size := HB.out.size
      have hap1 : ∀ x ∈ qe, Apart u5 x := hfe.apart fun b hb => (HO.out.own.lt b hb).2
      have hap2 : ∀ b, (u5 : Value).ownBlock = some b → ve.ownBlock ≠ some b := fun b hb e => by have h1 := (HO.out.own.lt b hb).2; have h2 := (hoe.own.lt b e).1; exact absurd h1 (Nat.not_lt.2 h2)
      have HAP := Lib.hid (And.intro hap1 hap2)
      have HFE := Lib.hid (hfe.base hsz)
      have HOE := Lib.hid (hoe.base hsz)
      obtain ⟨vea, vec, hve⟩ := own_slice hoe.own
      subst hve
      have hqi : (qe.length : Int) ≤ 112 := by omega
      have HES : Hid (es = qe.map Qe.ent) := hqe.symm
      obtain ⟨i0, hi0, hz0, hz1, hz2⟩ := info_parts info_entry
      have HI := Lib.hid (And.intro hi0 (And.intro hz0 (And.intro hz1 hz2)))
      clear hi0 hz0 hz1 hz2 hap1 hap2 hoe hqe hbe hfe hec HO HB HE HEN HQE
      have hk64 : k - s ≤ 64 := by omega
      go_wp2_with fail
      go_loopg [5, 28] qe.length (fun n v vj w3 => ∃ (j : Nat) (q2 : List Qe), vj = .int .i64 j ∧ n = qe.length - j ∧ j ≤ qe.length ∧ OwnE w3 w.heap.size v q2 ∧ OwnE w3 w.heap.size (.slice vea qe.length vec) qe ∧ q2.map Qe.ent = q.map Qe.ent ++ ((qe.take j).map Qe.ent).filter (fun x => decide (from_ ≤ x.1)) ∧ q2.length ≤ 112 * (k - s) + j ∧ Below w.heap.size w w3 ∧
        (∀ x ∈ qe, Apart v x) ∧ (∀ b, v.ownBlock = some b → (Value.slice vea qe.length vec).ownBlock ≠ some b) ∧ FreshQ w.heap.size q2)
      case atStart => exact ⟨0, q, rfl, rfl, Nat.zero_le _, HO2.out, HOE.out, by simp, by omega, HB2.out, HAP.out.1, HAP.out.2, HFQ.out⟩
      case round =>
        obtain ⟨j, q2, rfl, hgj, hj, ho2, hoe, hq2, hql2, hB3, hp1, hp2, hfq2⟩ := hrel
        clear HO2 HB2 HOE HAP HFQ
        by_cases hjl : j < qe.length
        · obtain ⟨ge, ce, hve, _, _⟩ := own_form hoe.own (by omega)
          cases hve
          have hmem := List.getElem_mem hjl
          have hlx := hoe.lists _ hmem
          have hxa := hp1 _ hmem
          have hfx := HFE.out _ hmem
          have htk : (qe.take (j + 1)).map Qe.ent = (qe.take j).map Qe.ent ++ [qe[j].ent] := by rw [List.take_succ_eq_append_getElem hjl, List.map_append]; rfl
          have hrange : wr.rangeAt ge (j * 12) qe[j].cells := fun i u hu => by
            have hi : i < 12 := by have := (List.getElem?_eq_some_iff.1 hu).1; rwa [Qe.cells_len] at this
            rw [hoe.own.cellAt (j * 12 + i) (by omega), entsV_at qe j hjl i hi, hu]
          have HTK := Lib.hid htk
          have HO := Lib.hid ho2
          have HOE := Lib.hid hoe
          have HQ2 := Lib.hid hq2
          have HB := Lib.hid hB3
          have HP := Lib.hid (And.intro hp1 hp2)
          have HFQ2 := Lib.hid hfq2
          have HGJ := Lib.hid hgj
          have HXA := Lib.hid hxa
          have HFX := Lib.hid hfx
          have HLX := Lib.hid hlx
          clear htk ho2 hoe hq2 hB3 hp1 hp2 hfq2 hgj hmem
          have hji : (j : Int) < qe.length := by omega
          generalize qe[j] = x at *
          obtain ⟨at_, r, vt, vp⟩ := x
          obtain ⟨ta, tc, hvt⟩ := hlx.t.form
          obtain ⟨pa, pc, hvp⟩ := hlx.p.form
          simp only at hvt hvp
          subst hvt hvp
          clear hlx hxa hfx
          have hn := Blk.new wr 58 #[.int .i64 0, .int .i64 0, .int .i64 0, .int .i64 0, .int .i64 0, .int .i64 0, .int .i64 0, .int .i64 0, .string ⟨#[]⟩, .string ⟨#[]⟩, .slice none 0 0, .slice none 0 0]
          have N3 := hn.setRow (Qe.cells ⟨at_, r, .slice ta r.txns.length tc, .slice pa r.pages.length pc⟩).toArray
          have hb3 := below_setRow ((Below.refl wr.heap.size wr).alloc (Nat.le_refl _) (.cells #[.int .i64 0, .int .i64 0, .int .i64 0, .int .i64 0, .int .i64 0, .int .i64 0, .int .i64 0, .int .i64 0, .string ⟨#[]⟩, .string ⟨#[]⟩, .slice none 0 0, .slice none 0 0] 58)) (Nat.le_refl _) (Qe.cells ⟨at_, r, .slice ta r.txns.length tc, .slice pa r.pages.length pc⟩).toArray
          have HO3 := Lib.hid (HO.out.keep hb3)
          have HOE3 := Lib.hid (HOE.out.keep hb3)
          have HLX3 := Lib.hid (HLX.out.keep hb3)
          have HB3 := Lib.hid (below2 HB.out hb3)
          go_upto_region 10 with (first
            | (refine wpList_load_mid rfl 58 _ rfl ge (j * 12) rfl _ _ hrange Try.underlying58 rfl (by kernel_rfl) ?_)
            | (refine wpList_store_row rfl 58 _ _ rfl wr.heap.size _ rfl rfl 58 _ hn (by kernel_rfl) rfl (by simp [Qe.cells, recCells, Value.oneCell']) ?_))
          change Code.wp _ _ _ _ ((wr.alloc (.cells #[.int .i64 0, .int .i64 0, .int .i64 0, .int .i64 0, .int .i64 0, .int .i64 0, .int .i64 0, .int .i64 0, .string ⟨#[]⟩, .string ⟨#[]⟩, .slice none 0 0, .slice none 0 0] 58)).setRow wr.heap.size (Qe.cells ⟨at_, r, .slice ta r.txns.length tc, .slice pa r.pages.length pc⟩).toArray)
          clear hn hb3 hrange HO HOE HLX HB
          generalize (wr.alloc (.cells #[.int .i64 0, .int .i64 0, .int .i64 0, .int .i64 0, .int .i64 0, .int .i64 0, .int .i64 0, .int .i64 0, .string ⟨#[]⟩, .string ⟨#[]⟩, .slice none 0 0, .slice none 0 0] 58)).setRow wr.heap.size (Qe.cells ⟨at_, r, .slice ta r.txns.length tc, .slice pa r.pages.length pc⟩).toArray = w3 at *
          generalize wr.heap.size = y at *
          have d0 := N3.cell 0
          simp [Qe.cells] at d0
          by_cases hfa : from_ ≤ at_
          · have hfil : (q2.map Qe.ent) ++ [(at_, r)] = q.map Qe.ent ++ ((qe.take (j + 1)).map Qe.ent).filter (fun x => decide (from_ ≤ x.1)) := by
              rw [HTK.out, HQ2.out, List.filter_append]
              simp [Qe.ent, hfa]
            have HFIL := Lib.hid hfil
            obtain ⟨hi0, hz0, hz1, hz2⟩ := id HI.out
            have B4 : Below w3.heap.size w3 (w3.alloc (.cells (Qe.cells ⟨at_, r, .slice ta r.txns.length tc, .slice pa r.pages.length pc⟩).toArray 58)) := (Below.refl _ _).alloc (Nat.le_refl _) _
            have HO4 := Lib.hid (HO3.out.keep B4)
            have HOE4 := Lib.hid (HOE3.out.keep B4)
            have HLX4 := Lib.hid (HLX3.out.keep B4)
            have HB4 := Lib.hid (below2 HB3.out B4)
            have hq4 := HB4.out.size
            have hq2b : q2.length ≤ 8000 := by omega
            simp only [Qe.cells, recCells] at N3
            clear hfil B4 HO3 HOE3 HLX3 HB3 HQ2 HTK
            go_wp2_with (first
              | (refine wpList_load_row rfl 58 _ rfl y rfl 58 _ (0, 0) _ N3 Try.underlying58 rfl (by kernel_rfl) ?_)
              | (at_builtin; refine wpList_append_lies _ rfl (.tmp 36) (.tmp 38) 26 rfl w.heap.size 58 i0 entryZero 12 144 Try.underlying26 hi0 hz0 hz1 hz2 rfl (by decide) _ _ _ rfl HO4.out.own ⟨w3.heap.size, 0, none⟩ 1 1 (Qe.cells ⟨at_, r, .slice ta r.txns.length tc, .slice pa r.pages.length pc⟩) rfl rfl (World.news_of_block (heap_alloc_new w3 _)) (by simp [Qe.cells, recCells, Value.oneCell']) (by omega) (by simp only [maxLen]; omega) (by omega) hq4 _ rfl ?_))
            intro gg cap w5 hown hgrow hat hlt5
            have HO5 := Lib.hid (HO4.out.pushed HLX4.out HXA.out hown hgrow (by rw [World.size_alloc]; exact hat))
            have HOE5 := Lib.hid (HOE4.out.grown hgrow HP.out.2 HP.out.1)
            have HB5 := Lib.hid (show Below w.heap.size w w5 from HB4.out.trans ⟨hgrow.os, hgrow.tape, hgrow.output, hgrow.size, fun b hb => hgrow.block b (Nat.lt_of_lt_of_le hb hq4) fun e => by have := (HO4.out.own.lt b e.symm).1; omega⟩)
            have HP5 : Hid ((∀ x ∈ qe, Apart (.slice (some ⟨gg, 0, none⟩) (q2.length + 1) cap) x) ∧ ∀ b, (Value.slice (some ⟨gg, 0, none⟩) (q2.length + 1) cap).ownBlock = some b → (Value.slice (some ⟨ge, 0, none⟩) qe.length vec).ownBlock ≠ some b) := by
              refine ⟨fun x hx b hb => ?_, fun b hb e => ?_⟩
              · simp only [Value.ownBlock, Option.some.injEq] at hb
                subst hb
                rcases hat with hat | hat
                · exact HP.out.1 x hx _ hat
                · have hl := HOE4.out.lists x hx
                  exact ⟨fun hr e => by have := hl.t.blt hr _ e; rw [World.size_alloc] at this; omega, fun hr e => by have := hl.p.blt hr _ e; rw [World.size_alloc] at this; omega⟩
              · simp only [Value.ownBlock, Option.some.injEq] at hb e
                subst hb
                rcases hat with hat | hat
                · exact HP.out.2 _ hat (by simp [Value.ownBlock, e])
                · have := (HOE4.out.own.lt ge rfl).2
                  rw [World.size_alloc] at this
                  omega
            have HFQ5 : Hid (FreshQ w.heap.size (q2 ++ [⟨at_, r, .slice ta r.txns.length tc, .slice pa r.pages.length pc⟩])) := fun z hz => by
              rcases List.mem_append.1 hz with hz | hz
              · exact HFQ2.out z hz
              · simp at hz; subst hz; exact HFX.out
            clear hown hgrow hat HO4 HOE4 HLX4 HB4
            go_wp2
            go_roundg (qe.length - (j + 1))
            case measure => have := HGJ.out; omega
            case rel => exact ⟨j + 1, q2 ++ [⟨at_, r, .slice ta r.txns.length tc, .slice pa r.pages.length pc⟩], by go_num, rfl, by omega, by simpa using HO5.out, HOE5.out, by rw [List.map_append]; exact HFIL.out, by simp; omega, HB5.out, HP5.out.1, HP5.out.2, HFQ5.out⟩
          · have hfil : q2.map Qe.ent = q.map Qe.ent ++ ((qe.take (j + 1)).map Qe.ent).filter (fun x => decide (from_ ≤ x.1)) := by
              rw [HTK.out, HQ2.out, List.filter_append]
              simp [Qe.ent, hfa]
            have HFIL := Lib.hid hfil
            clear hfil HQ2 HTK
            go_wp2
            go_roundg (qe.length - (j + 1))
            case measure => have := HGJ.out; omega
            case rel => exact ⟨j + 1, q2, by go_num, rfl, by omega, HO3.out, HOE3.out, HFIL.out, by omega, HB3.out, HP.out.1, HP.out.2, HFQ2.out⟩
        · obtain rfl : j = qe.length := by omega
          have hall : q2.map Qe.ent ++ l.rest from_ (k + 1) = l.scan from_ := by
            rw [← HQ.out, HSTEP.out, HES.out, hq2, List.take_length, List.append_assoc]
          have HALL := Lib.hid hall
          have HO := Lib.hid ho2
          have HB := Lib.hid hB3
          have HFQ2 := Lib.hid hfq2
          clear hall ho2 hoe hq2 hB3 hp1 hp2 hfq2 hgj
          go_wp2
          go_roundg (l.end_ - (k + 1))
          case measure => have := HGK.out; omega
          case rel => exact ⟨k + 1, q2, by go_num, rfl, by omega, by omega, by omega, HO.out, HALL.out, by omega, HB.out, HFQ2.out⟩
    · have hdone : q.map Qe.ent = l.scan from_ := by rw [← HQ.out, Wl.rest_end l from_ k (by omega), List.append_nil]
      have HD := Lib.hid hdone
      have hge : (l.end_ : Int) ≤ k := by omega
      clear hdone HQ
      go_wp2_with fail
      refine HE.out.mono ?_
      rintro e w1 ⟨rfl, n1, rfl⟩
      have HO2 := Lib.hid (HO.out.keep (drewN_below wr n1))
      have HB2 := Lib.hid (below2 HB.out (drewN_below wr n1))
      go_wp2
      go_ret
      exact ⟨_, q, rfl, HD.out, HO2.out, HB2.out, HFQ.out⟩
theorem tdiv_pos (x : Int) (h : 0 ≤ x) : x.tdiv 128 = x / 128 := Int.tdiv_eq_ediv_of_nonneg h
theorem tdiv_neg (x : Int) (h : x < 0) : x.tdiv 128 = -((-x) / 128) := by
  have := tdiv_pos (-x) (by omega)
  rw [Int.neg_tdiv] at this
  omega
theorem scan_any (h : IsLog w F g gd l) (from_ : Int) (hw : (Lit.int .i64 from_).wf = true) : Calls Try.prog 37 #[.pointer (some ⟨g, 0, none⟩), .int .i64 from_] w (EntsOut w (l.scan from_)) := by
  have hr : -9223372036854775808 ≤ from_ ∧ from_ ≤ 9223372036854775807 := by simpa [Lit.wf, IntKind.min, IntKind.max, IntKind.signed, IntKind.bits] using hw
  have hd : from_.tdiv 128 ≤ 72057594037927936 ∧ -72057594037927936 ≤ from_.tdiv 128 ∧ (0 ≤ from_.tdiv 128 → from_.tdiv 128 * 128 < from_ + 128) ∧ (0 < from_.tdiv 128 → from_.tdiv 128 * 128 ≤ from_) := by
    rcases Int.lt_or_le from_ 0 with hn | hn
    · rw [tdiv_neg _ hn]; omega
    · rw [tdiv_pos _ hn]; omega
  have hlm := h.1.lm
  have hwr : IntKind.i64.wrap (from_.tdiv 128) = from_.tdiv 128 := IntWalk.i64_in _ (by omega)
  by_cases hc : from_.tdiv 128 ≤ l.low
  · exact scan_from h from_ _ hwr l.low (.inl ⟨hc, rfl⟩) (Wl.rest_low l from_) (by omega)
  · obtain ⟨s, hs⟩ := Int.eq_ofNat_of_zero_le (show 0 ≤ from_.tdiv 128 by omega)
    refine scan_from h from_ _ hwr s (.inr ⟨by omega, by omega⟩) ?_ (by omega)
    rw [← Wl.rest_skip h.1 from_ s (.inl (by omega)) _ l.low rfl (Nat.le_refl _) (by omega), Wl.rest_low]
end
end Go.Proofs.Ytpcfhpffbogjmaa

/- Package wal: Read. -/
namespace Go.Proofs.Ytpcfhpffbogjmaa
open Go.RowKit

/-- What stands at a place. -/
def Wl.readAt (l : Wl) (at_ : Int) : Rc × Int := match (l.entries (at_.tdiv 128)).find? (fun x => x.1 == at_) with | some x => (x.2, 0) | none => (.nil, 7)
def ReadOut (w : World) (x : Rc × Int) (e : Ending) (w' : World) : Prop := ∃ v, e = .returned (.tuple #[v, .int .i64 x.2]) ∧ IsRec w' v x.1 ∧ Below w.heap.size w w'
section
variable {w : World} {F : Foot} {g gd : Nat} {l : Wl}
end
end Go.Proofs.Ytpcfhpffbogjmaa
