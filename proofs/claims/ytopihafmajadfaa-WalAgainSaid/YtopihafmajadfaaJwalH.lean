/- Texts that belong together, joined: WalH, WalI, WalJ. -/
import Derived.Test.YtopihafmajadfaaJwalA
import Derived.Test.YtopihafmajadfaaRecAll
import Derived.Deep.LoopGhost
import Derived.IntWalk
/- Package wal: the records of a sector. -/
namespace Go.Proofs.Ytopihafmajadfaa
open Go.RowKit

def Qe.moved (x : Qe) (a : Int) : Qe := ⟨a, x.r, x.vt, x.vp⟩
def Qe.shift (d : Int) (x : Qe) : Qe := x.moved (x.at_ + d)
theorem entsV_set : ∀ (q : List Qe) (j : Nat) (h : j < q.length) (a : Int), (entsV q).set (j * 12) (.int .i64 a) = entsV (q.set j (q[j].moved a))
  | [], j, h, _ => by simp at h
  | x :: q, 0, _, a => rfl
  | x :: q, j + 1, h, a => by
    show (x.cells ++ entsV q).set ((j + 1) * 12) _ = x.cells ++ entsV (q.set j ((q[j]'(by simpa using h)).moved a))
    rw [← entsV_set q j (by simpa using h) a, List.set_append_right _ _ (by rw [Qe.cells_len]; omega), Qe.cells_len, show (j + 1) * 12 - 12 = j * 12 by omega]
/-- A place is written in a list of one's own. -/
theorem OwnE.stored {w : World} {B g n cap : Nat} {q : List Qe} (h : OwnE w B (.slice (some ⟨g, 0, none⟩) n cap) q) (hn : n = q.length) (j : Nat) (hj : j < q.length) (a : Int) :
    OwnE (w.setCell ⟨g, j * 12, none⟩ (.int .i64 a)) B (.slice (some ⟨g, 0, none⟩) n cap) (q.set j (q[j].moved a)) := by
  subst hn
  have ho := (h.own.stored (j * 12) (.int .i64 a)).1
  rw [entsV_set q j hj a] at ho
  have hon : Only (· = g) w (w.setCell ⟨g, j * 12, none⟩ (.int .i64 a)) := (Only.refl (· = g) w).set (p := ⟨g, j * 12, none⟩) (.inl rfl) _
  have hall : ∀ y ∈ q.set j (q[j].moved a), Lists w y.r y.vt y.vp ∧ Apart (.slice (some ⟨g, 0, none⟩) q.length cap) y := fun y hy => by
    rcases List.mem_or_eq_of_mem_set hy with hy | rfl
    · exact ⟨h.lists y hy, h.apart y hy⟩
    · exact ⟨h.lists q[j] (List.getElem_mem hj), h.apart q[j] (List.getElem_mem hj)⟩
  refine ⟨?_, fun y hy => ?_, fun y hy => (hall y hy).2⟩
  · rw [List.length_set]; exact ho
  · obtain ⟨hl, ha⟩ := hall y hy
    exact hl.keepA hon (fun hr b hb e => by subst e; exact (ha b rfl).1 hr hb) (fun hr b hb e => by subst e; exact (ha b rfl).2 hr hb)
/-- The first j are moved. -/
def Qe.part (d : Int) (q : List Qe) (j : Nat) : List Qe := (q.take j).map (Qe.shift d) ++ q.drop j
theorem part_len (d : Int) (q : List Qe) (j : Nat) (h : j ≤ q.length) : (Qe.part d q j).length = q.length := by unfold Qe.part; simp; omega
theorem part_zero (d : Int) (q : List Qe) : Qe.part d q 0 = q := rfl
theorem part_all (d : Int) (q : List Qe) : Qe.part d q q.length = q.map (Qe.shift d) := by unfold Qe.part; simp
theorem part_split (d : Int) (q : List Qe) (j : Nat) (h : j < q.length) : Qe.part d q j = (q.take j).map (Qe.shift d) ++ (q[j] :: q.drop (j + 1)) := by unfold Qe.part; rw [List.drop_eq_getElem_cons h]
theorem part_next (d : Int) (q : List Qe) (j : Nat) (h : j < q.length) : (Qe.part d q j).set j (Qe.shift d q[j]) = Qe.part d q (j + 1) := by
  have hl : ((q.take j).map (Qe.shift d)).length = j := by simp; omega
  rw [part_split d q j h, List.set_append_right _ _ (by omega), hl, Nat.sub_self, List.set_cons_zero]
  unfold Qe.part
  rw [List.take_succ_eq_append_getElem h, List.map_append, List.append_assoc]
  rfl
theorem part_at (d : Int) (q : List Qe) (j : Nat) (h : j < q.length) (h' : j < (Qe.part d q j).length) : (Qe.part d q j)[j] = q[j] := by
  have hl : ((q.take j).map (Qe.shift d)).length = j := by simp; omega
  have : (Qe.part d q j)[j]? = some q[j] := by
    rw [part_split d q j h, List.getElem?_append_right (by omega), hl, Nat.sub_self]
    rfl
  rw [List.getElem?_eq_getElem h'] at this
  exact Option.some.inj this
theorem shift_ents (d : Int) (q : List Qe) : (q.map (Qe.shift d)).map Qe.ent = (q.map Qe.ent).map fun x => (x.1 + d, x.2) := by
  rw [List.map_map, List.map_map]
  rfl
theorem body_count : ∀ (rs : List Rc) (_ : ∀ r ∈ rs, May r), rs.length ≤ (body rs).length
  | [], _ => Nat.zero_le _
  | r :: rs, h => by
    have := body_count rs fun q hq => h q (by simp [hq])
    have hp := lay_pos (h r (by simp))
    simp only [body, List.flatMap_cons, List.length_append, List.length_cons] at *
    omega
theorem entsOf_len : ∀ (a : Int) (rs : List Rc), (entsOf a rs).length = rs.length
  | _, [] => rfl
  | a, r :: rs => by show (entsOf _ rs).length + 1 = _; rw [entsOf_len]; rfl
/-- The entries of the sector with this number. -/
def Wl.entries (l : Wl) (k : Int) : List Ent := if l.low ≤ k ∧ k < l.end_ then entsOf (k * 128) (l.secs.getD (k.toNat - l.low) []) else []
def EntsOut (w : World) (es : List Ent) (e : Ending) (w' : World) : Prop := ∃ v q, e = .returned v ∧ q.map Qe.ent = es ∧ OwnE w' w.heap.size v q ∧ Below w.heap.size w w' ∧ FreshQ w.heap.size q
theorem FreshQ.base {B B' : Nat} {q : List Qe} (h : FreshQ B q) (hb : B' ≤ B) : FreshQ B' q := fun x hx => ⟨fun hr b hv => Nat.le_trans hb ((h x hx).1 hr b hv), fun hr b hv => Nat.le_trans hb ((h x hx).2 hr b hv)⟩
theorem FreshQ.shift {B : Nat} {q : List Qe} (h : FreshQ B q) (d : Int) : FreshQ B (q.map (Qe.shift d)) := fun x hx => by
  obtain ⟨y, hy, rfl⟩ := List.mem_map.1 hx
  exact h y hy
/-- A list of one's own, as an operation yields it: alone; beside a number. -/
def Yield.own (B : Nat) (es : List Ent) : Yield := ⟨none, fun (v : Value) (w : World) => ∃ q : List Qe, q.map Qe.ent = es ∧ OwnE w B v q ∧ FreshQ B q, fun _ _ _ hb h => h.elim fun q h => ⟨q, h.1, h.2.1.keep hb, h.2.2⟩, fun _ h => by cases h⟩
def Yield.outs (B : Nat) (es : List Ent) (c : Int) : Yield := ⟨none, fun (x : Value) (w : World) => ∃ (v : Value) (q : List Qe), x = .tuple #[v, .int .i64 c] ∧ q.map Qe.ent = es ∧ OwnE w B v q ∧ FreshQ B q, fun _ _ _ hb h => h.elim fun v h => h.elim fun q h => ⟨v, q, h.1, h.2.1, h.2.2.1.keep hb, h.2.2.2⟩, fun _ h => by cases h⟩
theorem own_base {w : World} {B B' size n : Nat} {e : TypeId} {v : Value} {xs : List Value} (h : w.ownsRow B e size v n xs) (hb : B' ≤ B) : w.ownsRow B' e size v n xs := by
  obtain ⟨hl, h | ⟨g, cap, cur, rfl, h1, h2⟩⟩ := h
  · exact ⟨hl, .inl h⟩
  · exact ⟨hl, .inr ⟨g, cap, cur, rfl, Nat.le_trans hb h1, h2⟩⟩
theorem OwnE.base {w : World} {B B' : Nat} {v : Value} {q : List Qe} (h : OwnE w B v q) (hb : B' ≤ B) : OwnE w B' v q := ⟨own_base h.own hb, h.lists, h.apart⟩
section
variable {w : World} {F : Foot} {g gd : Nat} {l : Wl}
set_option maxRecDepth 100000 in
set_option maxHeartbeats 2000000 in
theorem entries_out (h : IsLog w F g gd l) (k : Int) (hk : ¬ (l.low ≤ k ∧ k < l.end_)) : Calls Try.prog 59 #[.pointer (some ⟨g, 0, none⟩), .int .i64 k] w (EntsOut w []) := by
  have H1 := Lib.hid (end_any h)
  have c4 := h.zero.cells.2.2.2
  have hlo : (0 : Int) ≤ l.low := by omega
  clear h
  by_cases h1 : k < l.low
  · clear hk
    go_enter Try.func59, Try.ntmps59
    go_wp2_with fail
    go_ret
    exact ⟨_, [], rfl, rfl, OwnE.nil _ _, Below.refl _ _, FreshQ.nil _⟩
  · have h2 : (l.end_ : Int) ≤ k := by omega
    clear hk
    generalize l.end_ = x at *
    go_enter Try.func59, Try.ntmps59
    go_wp2_with fail
    refine H1.out.mono ?_
    rintro e w1 ⟨rfl, n, rfl⟩
    go_wp2
    go_ret
    exact ⟨_, [], rfl, rfl, OwnE.nil _ _, drewN_below w n, FreshQ.nil _⟩
set_option maxRecDepth 100000 in
set_option maxHeartbeats 8000000 in
theorem entries_in (h : IsLog w F g gd l) (k : Nat) (h1 : l.low ≤ k) (h2 : k < l.end_) : Calls Try.prog 59 #[.pointer (some ⟨g, 0, none⟩), .int .i64 k] w (EntsOut w (entsOf ((k * 128 : Nat) : Int) (l.secs.getD (k - l.low) []))) := by
  have H1 := Lib.hid (end_any h)
  have HLOG := Lib.hid h
  obtain ⟨ok, vb, r⟩ := h
  have hlm := ok.lm
  have h64 := ok.s64
  have hlen := ok.len
  have hkl : k - l.low < l.secs.length := by unfold Wl.end_ at h2; omega
  have hmem : l.secs.getD (k - l.low) [] ∈ l.secs := by
    rw [List.getD_eq_getElem?_getD, List.getElem?_eq_getElem hkl]
    exact List.getElem_mem hkl
  obtain ⟨_, hmay, h112⟩ := ok.sec _ hmem
  obtain ⟨g2, cap, rfl, hcap, hcm⟩ := own_form r.rows (by omega)
  have cl : w.cell? ⟨g2, k - l.low, none⟩ = some (.string (bodyS (l.secs.getD (k - l.low) []))) := by
    rw [r.rows.cellAt _ (by omega)]
    simp only [strsV, List.map_map, List.getElem?_map]
    rw [List.getD_eq_getElem?_getD, List.getElem?_eq_getElem hkl]
    rfl
  have hg2 : g2 < w.heap.size := (r.rows.lt g2 rfl).2
  have CELLS : Hid (∀ W, Below w.heap.size w W → W.cell? ⟨g, 4, none⟩ = some (.int .i64 l.low) ∧ W.cell? ⟨g, 6, none⟩ = some (.slice (some ⟨g2, 0, none⟩) l.secs.length cap) ∧ W.cell? ⟨g2, k - l.low, none⟩ = some (.string (bodyS (l.secs.getD (k - l.low) [])))) :=
    fun W hW => ⟨(r.below hW).cells.2.2.2.2.1, (r.below hW).cells.2.2.2.2.2.2, (hW.cell (p := ⟨g2, k - l.low, none⟩) hg2).trans cl⟩
  have AL : Hid (∀ W, Calls Try.prog 14 #[.string (bodyS (l.secs.getD (k - l.low) []))] W (AllOut W (some (entsOf 0 (l.secs.getD (k - l.low) []))))) := fun W => by
    have := all_any (bodyS (l.secs.getD (k - l.low) [])) W (by rw [bodyS_size]; omega)
    rwa [show allS (bodyS (l.secs.getD (k - l.low) [])) = some (entsOf 0 (l.secs.getD (k - l.low) [])) from allS_body hmay] at this
  have c4 := r.cells.2.2.2.2.1
  have hki : ¬ (k : Int) < l.low := by omega
  have hke : (k : Int) < l.end_ := by omega
  have hidx : (k : Int) - (l.low : Int) < l.secs.length := by omega
  have hidx0 : (0 : Int) ≤ (k : Int) - (l.low : Int) := by omega
  have htn : ((k : Int) - (l.low : Int)).toNat = k - l.low := by omega
  have hkb : (k : Int) ≤ 2147483711 := by unfold Wl.end_ at h2; omega
  have hbl : (entsOf 0 (l.secs.getD (k - l.low) [])).length ≤ 112 := by
    rw [entsOf_len]
    exact Nat.le_trans (body_count _ hmay) h112
  have HBD : Hid (∀ x ∈ entsOf 0 (l.secs.getD (k - l.low) []), 0 ≤ x.1 ∧ x.1 ≤ 112) := fun x hx => by
    have := entsOf_ge 0 _ hmay x hx
    have h112' : ((l.secs.getD (k - l.low) []).flatMap lay).length ≤ 112 := h112
    omega
  clear hkl hmem hmay h112 hcap hcm cl hg2 ok r hlm h64 hlen h1 h2
  generalize l.secs.getD (k - l.low) [] = rs at *
  generalize bodyS rs = b at *
  generalize l.end_ = x at *
  have hd : decide (x ≤ k) = false := by simp; omega
  go_enter Try.func59, Try.ntmps59
  go_wp2_with fail
  refine H1.out.mono ?_
  rintro e w1 ⟨rfl, n, rfl⟩
  have HB1 := Lib.hid (drewN_below w n)
  go_wp2_with fail
  generalize w.drewN n = w2 at *
  clear c4
  refine' wp_region_conf 18 (.is _ :: .is _ :: .is _ :: .is _ :: .is _ :: .is _ :: .is _ :: .is _ :: .is _ :: .is _ :: .is _ :: .is _ :: .outs w.heap.size (entsOf 0 rs) 0 :: .outs w.heap.size (entsOf 0 rs) 0 :: .own w.heap.size (entsOf 0 rs) :: .is (.int .i64 0) :: .own w.heap.size (entsOf 0 rs) :: .is (.int .i64 0) :: []) (by kernel_rfl) (by kernel_rfl) (by kernel_rfl) (by kernel_rfl) rfl ?main
  case main =>
    iterate 12
      refine obs_is (fun w4 hE4 _ => ?_) ?_
      · obtain ⟨d4, d6, db⟩ := CELLS.out w4 (HB1.out.trans (((Below.refl w2.heap.size w2).drew.trans hE4).mono HB1.out.size))
        go_wp2
        exact post_is (Below.refl _ _)
      simp only [Act.put, List.setIfInBounds_toArray, List.set_cons_zero, List.set_cons_succ]
    refine ⟨fun w4 hE4 _ => ?_, fun x1 => ?_⟩
    · have hs4 : w.heap.size ≤ w4.heap.size := (HB1.out.trans (((Below.refl w2.heap.size w2).drew.trans hE4).mono HB1.out.size)).size
      clear hE4
      go_wp2_with fail
      refine (AL.out _).mono ?_
      rintro e w5 ⟨v5, q5, rfl, hq5, ho5, hb5, hf5⟩
      have HH : Hid (∃ (v : Value) (q : List Qe), Value.tuple #[v5, .int .i64 (allCode (some (entsOf 0 rs)))] = .tuple #[v, .int .i64 0] ∧ q.map Qe.ent = entsOf 0 rs ∧ OwnE w5 w.heap.size v q ∧ FreshQ w.heap.size q) := ⟨v5, q5, rfl, hq5, ho5.base hs4, hf5.base hs4⟩
      have HBB := Lib.hid hb5
      clear hq5 ho5 hb5 hf5
      go_wp2
      refine ⟨.tuple #[v5, .int .i64 (allCode (some (entsOf 0 rs)))], ?_, HH.out, HBB.out⟩
      simp only [Act.put, List.setIfInBounds_toArray, List.set_cons_zero, List.set_cons_succ]
    simp only [Act.put, List.setIfInBounds_toArray, List.set_cons_zero, List.set_cons_succ]
    refine ⟨fun w4 hE4 hk => ?_, fun x2 => ?_⟩
    · obtain ⟨v5, q5, rfl, hq5, ho5, hf5⟩ := hk _ (List.mem_cons_self) (by kernel_rfl)
      have HH : Hid (∃ v q, Value.tuple #[v5, .int .i64 0] = .tuple #[v, .int .i64 0] ∧ q.map Qe.ent = entsOf 0 rs ∧ OwnE w4 w.heap.size v q ∧ FreshQ w.heap.size q) := ⟨v5, q5, rfl, hq5, ho5, hf5⟩
      clear hq5 ho5 hf5 hk hE4
      go_wp2
      refine ⟨(.tuple #[v5, .int .i64 0]), ?_, HH.out, Below.refl _ _⟩
      simp only [Act.put, List.setIfInBounds_toArray, List.set_cons_zero, List.set_cons_succ]
    simp only [Act.put, List.setIfInBounds_toArray, List.set_cons_zero, List.set_cons_succ]
    refine ⟨fun w4 hE4 hk => ?_, fun x3 => ?_⟩
    · obtain ⟨v5, q5, rfl, hq5, ho5, hf5⟩ := hk _ (List.mem_cons_self) (by kernel_rfl)
      have HH : Hid (∃ q, q.map Qe.ent = entsOf 0 rs ∧ OwnE w4 w.heap.size v5 q ∧ FreshQ w.heap.size q) := ⟨q5, hq5, ho5, hf5⟩
      clear hq5 ho5 hf5 hk hE4
      go_wp2
      refine ⟨v5, ?_, HH.out, Below.refl _ _⟩
      simp only [Act.put, List.setIfInBounds_toArray, List.set_cons_zero, List.set_cons_succ]
    simp only [Act.put, List.setIfInBounds_toArray, List.set_cons_zero, List.set_cons_succ]
    refine obs_is (fun w4 hE4 hk => ?_) ?_
    · obtain ⟨v5, q5, rfl, hq5, ho5, hf5⟩ := hk _ (List.mem_cons_of_mem _ (List.mem_cons_self)) (by kernel_rfl)
      clear hq5 ho5 hf5 hk hE4
      go_wp2
      exact post_is (Below.refl _ _)
    simp only [Act.put, List.setIfInBounds_toArray, List.set_cons_zero, List.set_cons_succ]
    refine ⟨fun w4 hE4 hk => ?_, fun x4 => ?_⟩
    · obtain ⟨q5, hq5, ho5, hf5⟩ := hk _ (List.mem_cons_self) (by kernel_rfl)
      have HH : Hid (∃ q, q.map Qe.ent = entsOf 0 rs ∧ OwnE w4 w.heap.size x3 q ∧ FreshQ w.heap.size q) := ⟨q5, hq5, ho5, hf5⟩
      clear hq5 ho5 hf5 hk hE4
      go_wp2
      refine ⟨x3, ?_, HH.out, Below.refl _ _⟩
      simp only [Act.put, List.setIfInBounds_toArray, List.set_cons_zero, List.set_cons_succ]
    simp only [Act.put, List.setIfInBounds_toArray, List.set_cons_zero, List.set_cons_succ]
    refine obs_is (fun w4 hE4 hk => ?_) ?_
    · clear hk hE4
      go_wp2
      exact post_is (Below.refl _ _)
    simp only [Act.put, List.setIfInBounds_toArray, List.set_cons_zero, List.set_cons_succ]
    refine obs_end fun w4 hE4 hk => ?_
    obtain ⟨q, hq, ho4, hfq⟩ := hk _ (List.mem_cons_self)
    have HB4 := Lib.hid (HB1.out.trans (((Below.refl w2.heap.size w2).drew.trans hE4).mono HB1.out.size))
    have hql : q.length ≤ 112 := by rw [← hq, List.length_map] at hbl; exact hbl
    have HQ := Lib.hid hq
    have HFQ := Lib.hid hfq
    clear hfq
    clear hq hk hE4 HB1 CELLS AL H1 hbl
    change wpList _ _ _ _ _ _
    have ho : OwnE w4 w.heap.size x4 q := ho4
    have HQB : Hid (∀ x ∈ q, 0 ≤ x.at_ ∧ x.at_ ≤ 112) := fun x hx => HBD.out x.ent (by rw [← HQ.out]; exact List.mem_map_of_mem hx)
    clear ho4 HBD
    rcases own_any ho.own with ⟨rfl, h0, _⟩ | ⟨gg, cp, rfl, hc1, hc2⟩
    · have hqn : q = [] := List.eq_nil_of_length_eq_zero h0
      subst hqn
      have HO := Lib.hid ho
      have hnil : entsOf ((k * 128 : Nat) : Int) rs = [] := by
        have := HQ.out
        have e : rs = [] := by
          have h2 := congrArg List.length this
          rw [entsOf_len] at h2
          exact List.eq_nil_of_length_eq_zero h2.symm
        rw [e]; rfl
      have HN := Lib.hid hnil
      clear ho h0 hnil hql HQ HQB
      go_wp2_with fail
      refine wp_loop_rounds 1 ?_
      rw [rounds_succ]
      go_wp2
      go_ret
      exact ⟨_, [], rfl, by rw [HN.out]; rfl, HO.out, HB4.out, FreshQ.nil _⟩
    · have HO : Hid (OwnE w4 w.heap.size (.slice (some ⟨gg, 0, none⟩) q.length cp) (Qe.part ((k : Int) * 128) q 0)) := ho
      have hqi : (q.length : Int) ≤ 112 := by omega
      clear ho hc1 hc2
      go_wp2_with fail
      go_loopw [38] (fun vj wr => ∃ j : Nat, vj = .int .i64 j ∧ j ≤ q.length ∧ OwnE wr w.heap.size (.slice (some ⟨gg, 0, none⟩) q.length cp) (Qe.part ((k : Int) * 128) q j) ∧ Below w.heap.size w wr) (fun vj _ => q.length - (intOf vj).toNat)
      case atStart => exact ⟨0, rfl, Nat.zero_le _, HO.out, HB4.out⟩
      case round =>
        obtain ⟨j, rfl, hj, hoj, hB⟩ := hrel
        clear HO HB4
        by_cases hlt : j < q.length
        · have hl2 : j < (Qe.part ((k : Int) * 128) q j).length := by rw [part_len _ _ _ hj]; exact hlt
          have hat := part_at ((k : Int) * 128) q j hlt hl2
          have hown := hoj.own
          rw [part_len _ _ _ hj] at hown
          have hcell := hown.cellAt (j * 12 + 0) (by omega)
          rw [entsV_at _ j hl2 0 (by omega), hat, Nat.add_zero] at hcell
          have hcell' : wr.cell? ⟨gg, j * 12, none⟩ = some (.int .i64 q[j].at_) := hcell
          have hfr := hown.frozenAt (j * 12)
          have hb0 := (HQB.out q[j] (List.getElem_mem hlt)).1
          have hb1 := (HQB.out q[j] (List.getElem_mem hlt)).2
          have hs := hoj.stored (part_len _ _ _ hj).symm j hl2 (q[j].at_ + (k : Int) * 128)
          rw [hat, show q[j].moved (q[j].at_ + (k : Int) * 128) = Qe.shift ((k : Int) * 128) q[j] from rfl, part_next _ _ _ hlt] at hs
          have HS := Lib.hid hs
          have HB := Lib.hid (hB.setCell (p := ⟨gg, j * 12, none⟩) (hoj.own.lt gg rfl).1 (.int .i64 (q[j].at_ + (k : Int) * 128)))
          have hji : (j : Int) < q.length := by omega
          clear hown hcell hs hB hoj hat hl2
          generalize q[j].at_ = z at *
          go_wp2
          go_roundw
          case rel => exact ⟨j + 1, by go_num, by omega, HS.out, HB.out⟩
          case measure => simp [intOf]; omega
        · obtain rfl : j = q.length := by omega
          rw [part_all] at hoj
          have HO := Lib.hid hoj
          have HB := Lib.hid hB
          clear hoj hB
          go_wp2
          go_ret
          refine ⟨_, _, rfl, ?_, HO.out, HB.out, HFQ.out.shift _⟩
          rw [shift_ents, HQ.out, entsOf_shift]
          congr 1
          omega
theorem entries_any (h : IsLog w F g gd l) (k : Int) : Calls Try.prog 59 #[.pointer (some ⟨g, 0, none⟩), .int .i64 k] w (EntsOut w (l.entries k)) := by
  unfold Wl.entries
  by_cases hk : l.low ≤ k ∧ k < l.end_
  · rw [if_pos hk]
    obtain ⟨k', rfl⟩ := Int.eq_ofNat_of_zero_le (show 0 ≤ k by omega)
    have := entries_in h k' (by omega) (by omega)
    rw [Int.toNat_natCast]
    rw [Int.natCast_mul] at this
    exact this
  · rw [if_neg hk]
    exact entries_out h k hk
end
end Go.Proofs.Ytopihafmajadfaa

/- Package wal: Scan. -/
namespace Go.Proofs.Ytopihafmajadfaa
open Go.RowKit

namespace Wl
/-- What a scan still brings from the sector k on. -/
def rest (l : Wl) (from_ : Int) (k : Nat) : List Ent := (allFrom k (l.secs.drop (k - l.low))).filter fun x => decide (from_ ≤ x.1)
theorem rest_end (l : Wl) (f : Int) (k : Nat) (h : l.end_ ≤ k) : l.rest f k = [] := by
  unfold rest
  rw [List.drop_of_length_le (by unfold end_ at h; omega)]
  rfl
theorem rest_step (l : Wl) (f : Int) (k : Nat) (h1 : l.low ≤ k) (h2 : k < l.end_) : l.rest f k = (l.entries k).filter (fun x => decide (f ≤ x.1)) ++ l.rest f (k + 1) := by
  have hlt : k - l.low < l.secs.length := by unfold end_ at h2; omega
  unfold rest
  rw [List.drop_eq_getElem_cons hlt, show k + 1 - l.low = k - l.low + 1 by omega]
  simp only [allFrom, List.filter_append]
  congr 2
  unfold entries
  rw [if_pos ⟨by omega, by omega⟩, Int.toNat_natCast, List.getD_eq_getElem?_getD, List.getElem?_eq_getElem hlt, Int.natCast_mul]
  rfl
theorem rest_low (l : Wl) (f : Int) : l.rest f l.low = l.scan f := by
  unfold rest scan all
  rw [Nat.sub_self]
  rfl
theorem entries_lt {l : Wl} (h : l.Ok) (k : Nat) : ∀ x ∈ l.entries k, x.1 < (k : Int) * 128 + 128 := fun x hx => by
  unfold entries at hx
  split at hx
  · rename_i hc
    have hlt : k - l.low < l.secs.length := by have := hc.2; unfold end_ at this; omega
    have hmem : l.secs.getD ((k : Int).toNat - l.low) [] ∈ l.secs := by
      rw [Int.toNat_natCast, List.getD_eq_getElem?_getD, List.getElem?_eq_getElem hlt]
      exact List.getElem_mem hlt
    obtain ⟨_, hm, h112⟩ := h.sec _ hmem
    have h112' : ((l.secs.getD ((k : Int).toNat - l.low) []).flatMap lay).length ≤ 112 := h112
    have := entsOf_ge _ _ hm x hx
    omega
  · simp at hx
/-- Sectors that end ahead of a place bring nothing. -/
theorem rest_skip {l : Wl} (h : l.Ok) (f : Int) (s : Nat) (hs : (s : Int) * 128 ≤ f ∨ s ≤ l.low) : ∀ (d k : Nat), s - k = d → l.low ≤ k → k ≤ s → l.rest f k = l.rest f s := by
  intro d
  induction d with
  | zero => intro k hd h1 h2; rw [show k = s by omega]
  | succ d ih =>
    intro k hd h1 h2
    rw [← ih (k + 1) (by omega) (by omega) (by omega)]
    by_cases hk : k < l.end_
    · rw [rest_step l f k h1 hk]
      have : (l.entries k).filter (fun x => decide (f ≤ x.1)) = [] := by
        rw [List.filter_eq_nil_iff]
        intro x hx
        have := entries_lt h k x hx
        simp
        omega
      rw [this, List.nil_append]
    · rw [rest_end l f k (by omega), rest_end l f (k + 1) (by omega)]
end Wl
theorem FreshQ.apart {B' : Nat} {v : Value} {qe : List Qe} (h : FreshQ B' qe) (hv : ∀ b, v.ownBlock = some b → b < B') : ∀ x ∈ qe, Apart v x := fun x hx b hb =>
  ⟨fun hr e => by have := (h x hx).1 hr b e; have := hv b hb; omega, fun hr e => by have := (h x hx).2 hr b e; have := hv b hb; omega⟩
/-- Another list of one's own grew. -/
theorem OwnE.grown {w w' : World} {B : Nat} {ve v : Value} {qe : List Qe} (h : OwnE w B ve qe) (hg : w.grownBy w' v.ownBlock) (hne : ∀ b, v.ownBlock = some b → ve.ownBlock ≠ some b) (ha : ∀ x ∈ qe, Apart v x) : OwnE w' B ve qe := by
  have hon : Only (fun b => v.ownBlock = some b) w w' := (Only.refl _ w).grown hg fun b hb => .inl hb
  exact ⟨own_only h.own hon fun b hb e => hne b e hb, fun x hx => (h.lists x hx).keepA hon (fun hr b hb e => (ha x hx b e).1 hr hb) (fun hr b hb e => (ha x hx b e).2 hr hb), h.apart⟩
section
variable {w : World} {F : Foot} {g gd : Nat} {l : Wl}
theorem entries_count {l : Wl} (h : l.Ok) (k : Int) : (l.entries k).length ≤ 112 := by
  unfold Wl.entries
  split
  · rename_i hc
    have hlt : k.toNat - l.low < l.secs.length := by have := hc.2; unfold Wl.end_ at this; omega
    have hmem : l.secs.getD (k.toNat - l.low) [] ∈ l.secs := by
      rw [List.getD_eq_getElem?_getD, List.getElem?_eq_getElem hlt]
      exact List.getElem_mem hlt
    obtain ⟨_, hm, h112⟩ := h.sec _ hmem
    rw [entsOf_len]
    exact Nat.le_trans (body_count _ hm) h112
  · exact Nat.zero_le _
set_option maxRecDepth 100000 in
set_option maxHeartbeats 8000000 in
theorem scan_from (h : IsLog w F g gd l) (from_ : Int) (d : Int) (hd : IntKind.i64.wrap (from_.tdiv 128) = d) (s : Nat) (hs : (d ≤ l.low ∧ s = l.low) ∨ ((l.low : Int) < d ∧ (s : Int) = d)) (hs2 : l.rest from_ s = l.scan from_) (hsm : s ≤ 144115188075855872) :
    Calls Try.prog 29 #[.pointer (some ⟨g, 0, none⟩), .int .i64 from_] w (EntsOut w (l.scan from_)) := by
  have HLOG := Lib.hid h
  have HS2 := Lib.hid hs2
  have HD := Lib.hid hd
  have c4 := h.zero.cells.2.2.2
  have ok := h.1
  have hlm : (l.low : Int) ≤ 2147483647 := by have := ok.lm; omega
  have hem : (l.end_ : Int) ≤ 2147483711 := by have := ok.lm; have := ok.len; have := ok.s64; unfold Wl.end_; omega
  have hels : l.end_ ≤ l.low + 64 := by have := ok.len; have := ok.s64; unfold Wl.end_; omega
  have hsl : l.low ≤ s := by omega
  have hmax : (if (l.low : Int) < d then d else (l.low : Int)) = (s : Int) := by split <;> omega
  clear h hs2 ok hs
  go_enter Try.func29, Try.ntmps29
  go_wp2_with fail
  clear hmax hd c4
  have hsi : (s : Int) ≤ 144115188075855872 := by omega
  go_loopg [5, 6] (l.end_ - s) (fun n v vk wr => ∃ (k : Nat) (q : List Qe), vk = .int .i64 k ∧ n = l.end_ - k ∧ s ≤ k ∧ k ≤ 144115188075855872 + 64 ∧ (k ≤ s ∨ k ≤ l.end_) ∧ OwnE wr w.heap.size v q ∧ q.map Qe.ent ++ l.rest from_ k = l.scan from_ ∧ q.length ≤ 112 * (k - s) ∧ Below w.heap.size w wr ∧ FreshQ w.heap.size q)
  case atStart => exact ⟨s, [], rfl, rfl, Nat.le_refl _, by omega, .inl (Nat.le_refl _), OwnE.nil _ _, HS2.out, Nat.zero_le _, Below.refl _ _, FreshQ.nil _⟩
  case round =>
    obtain ⟨k, q, rfl, hgk, hsk, hk1, hk2, ho, hq, hql, hB, hfq⟩ := hrel
    have HFQ := Lib.hid hfq
    clear hfq
    have HO := Lib.hid ho
    have HQ := Lib.hid hq
    have HB := Lib.hid hB
    have HGK := Lib.hid hgk
    have HE := Lib.hid (end_any (HLOG.out.below hB))
    have hki : (k : Int) ≤ 144115188075855936 := by omega
    clear ho hq hB hgk
    by_cases hlt : k < l.end_
    · have HEN : Hid (∀ m, Calls Try.prog 59 #[.pointer (some ⟨g, 0, none⟩), .int .i64 k] (wr.drewN m) (EntsOut (wr.drewN m) (l.entries k))) := fun m => entries_any ((HLOG.out.below HB.out).below (drewN_below wr m)) k
      have hec := entries_count HLOG.out.1 (k : Int)
      have hstep := Wl.rest_step l from_ k (by omega) hlt
      have HSTEP := Lib.hid hstep
      have hlti : (k : Int) < l.end_ := by omega
      clear hstep
      generalize l.entries (k : Int) = es at *
      go_wp2_with fail
      refine HE.out.mono ?_
      rintro e w1 ⟨rfl, n1, rfl⟩
      go_wp2_with fail
      refine (HEN.out _).mono ?_
      rintro e w2 ⟨ve, qe, rfl, hqe, hoe, hbe, hfe⟩
      have HO2 := Lib.hid (HO.out.keep ((drewN_below wr n1).trans (hbe.mono (Nat.le_refl _))))
      have HB2 := Lib.hid (below2 HB.out ((drewN_below wr n1).trans (hbe.mono (Nat.le_refl _))))
      have hqel : qe.length ≤ 112 := by rw [← hqe, List.length_map] at hec; exact hec
      have HQE := Lib.hid hqe
      have hsz : w.heap.size ≤ (wr.drewN n1).heap.size := HB.out.size
      have hap1 : ∀ x ∈ qe, Apart u5 x := hfe.apart fun b hb => (HO.out.own.lt b hb).2
      have hap2 : ∀ b, (u5 : Value).ownBlock = some b → ve.ownBlock ≠ some b := fun b hb e => by have h1 := (HO.out.own.lt b hb).2; have h2 := (hoe.own.lt b e).1; exact absurd h1 (Nat.not_lt.2 h2)
      have HAP := Lib.hid (And.intro hap1 hap2)
      have HFE := Lib.hid (hfe.base hsz)
      have HOE := Lib.hid (hoe.base hsz)
      obtain ⟨vea, vec, hve⟩ := own_slice hoe.own
      subst hve
      have hqi : (qe.length : Int) ≤ 112 := by omega
      have HES : Hid (es = qe.map Qe.ent) := hqe.symm
      obtain ⟨i0, hi0, hz0, hz1, hz2⟩ := info_parts info_entry
      have HI := Lib.hid (And.intro hi0 (And.intro hz0 (And.intro hz1 hz2)))
      clear hi0 hz0 hz1 hz2 hap1 hap2 hoe hqe hbe hfe hec HO HB HE HEN HQE
      have hk64 : k - s ≤ 64 := by omega
      go_wp2_with fail
      go_loopg [5, 28] qe.length (fun n v vj w3 => ∃ (j : Nat) (q2 : List Qe), vj = .int .i64 j ∧ n = qe.length - j ∧ j ≤ qe.length ∧ OwnE w3 w.heap.size v q2 ∧ OwnE w3 w.heap.size (.slice vea qe.length vec) qe ∧ q2.map Qe.ent = q.map Qe.ent ++ ((qe.take j).map Qe.ent).filter (fun x => decide (from_ ≤ x.1)) ∧ q2.length ≤ 112 * (k - s) + j ∧ Below w.heap.size w w3 ∧
        (∀ x ∈ qe, Apart v x) ∧ (∀ b, v.ownBlock = some b → (Value.slice vea qe.length vec).ownBlock ≠ some b) ∧ FreshQ w.heap.size q2)
      case atStart => exact ⟨0, q, rfl, rfl, Nat.zero_le _, HO2.out, HOE.out, by simp, by omega, HB2.out, HAP.out.1, HAP.out.2, HFQ.out⟩
      case round =>
        obtain ⟨j, q2, rfl, hgj, hj, ho2, hoe, hq2, hql2, hB3, hp1, hp2, hfq2⟩ := hrel
        clear HO2 HB2 HOE HAP HFQ
        by_cases hjl : j < qe.length
        · obtain ⟨ge, ce, hve, _, _⟩ := own_form hoe.own (by omega)
          cases hve
          have hmem := List.getElem_mem hjl
          have hlx := hoe.lists _ hmem
          have hxa := hp1 _ hmem
          have hfx := HFE.out _ hmem
          have htk : (qe.take (j + 1)).map Qe.ent = (qe.take j).map Qe.ent ++ [qe[j].ent] := by rw [List.take_succ_eq_append_getElem hjl, List.map_append]; rfl
          have hrange : wr.rangeAt ge (j * 12) qe[j].cells := fun i u hu => by
            have hi : i < 12 := by have := (List.getElem?_eq_some_iff.1 hu).1; rwa [Qe.cells_len] at this
            rw [hoe.own.cellAt (j * 12 + i) (by omega), entsV_at qe j hjl i hi, hu]
          have HTK := Lib.hid htk
          have HO := Lib.hid ho2
          have HOE := Lib.hid hoe
          have HQ2 := Lib.hid hq2
          have HB := Lib.hid hB3
          have HP := Lib.hid (And.intro hp1 hp2)
          have HFQ2 := Lib.hid hfq2
          have HGJ := Lib.hid hgj
          have HXA := Lib.hid hxa
          have HFX := Lib.hid hfx
          have HLX := Lib.hid hlx
          clear htk ho2 hoe hq2 hB3 hp1 hp2 hfq2 hgj hmem
          have hji : (j : Int) < qe.length := by omega
          generalize qe[j] = x at *
          obtain ⟨at_, r, vt, vp⟩ := x
          obtain ⟨ta, tc, hvt⟩ := hlx.t.form
          obtain ⟨pa, pc, hvp⟩ := hlx.p.form
          simp only at hvt hvp
          subst hvt hvp
          clear hlx hxa hfx
          have hn := Blk.new wr 45 #[.int .i64 0, .int .i64 0, .int .i64 0, .int .i64 0, .int .i64 0, .int .i64 0, .int .i64 0, .int .i64 0, .string ⟨#[]⟩, .string ⟨#[]⟩, .slice none 0 0, .slice none 0 0]
          have N3 := hn.setRow (Qe.cells ⟨at_, r, .slice ta r.txns.length tc, .slice pa r.pages.length pc⟩).toArray
          have hb3 := below_setRow ((Below.refl wr.heap.size wr).alloc (Nat.le_refl _) (.cells #[.int .i64 0, .int .i64 0, .int .i64 0, .int .i64 0, .int .i64 0, .int .i64 0, .int .i64 0, .int .i64 0, .string ⟨#[]⟩, .string ⟨#[]⟩, .slice none 0 0, .slice none 0 0] 45)) (Nat.le_refl _) (Qe.cells ⟨at_, r, .slice ta r.txns.length tc, .slice pa r.pages.length pc⟩).toArray
          have HO3 := Lib.hid (HO.out.keep hb3)
          have HOE3 := Lib.hid (HOE.out.keep hb3)
          have HLX3 := Lib.hid (HLX.out.keep hb3)
          have HB3 := Lib.hid (below2 HB.out hb3)
          go_upto_region 10 with (first
            | (refine wpList_load_mid rfl 45 _ rfl ge (j * 12) rfl _ _ hrange Try.underlying45 rfl (by kernel_rfl) ?_)
            | (refine wpList_store_row rfl 45 _ _ rfl wr.heap.size _ rfl rfl 45 _ hn (by kernel_rfl) rfl (by simp [Qe.cells, recCells, Value.oneCell']) ?_))
          change Code.wp _ _ _ _ ((wr.alloc (.cells #[.int .i64 0, .int .i64 0, .int .i64 0, .int .i64 0, .int .i64 0, .int .i64 0, .int .i64 0, .int .i64 0, .string ⟨#[]⟩, .string ⟨#[]⟩, .slice none 0 0, .slice none 0 0] 45)).setRow wr.heap.size (Qe.cells ⟨at_, r, .slice ta r.txns.length tc, .slice pa r.pages.length pc⟩).toArray)
          clear hn hb3 hrange HO HOE HLX HB
          generalize (wr.alloc (.cells #[.int .i64 0, .int .i64 0, .int .i64 0, .int .i64 0, .int .i64 0, .int .i64 0, .int .i64 0, .int .i64 0, .string ⟨#[]⟩, .string ⟨#[]⟩, .slice none 0 0, .slice none 0 0] 45)).setRow wr.heap.size (Qe.cells ⟨at_, r, .slice ta r.txns.length tc, .slice pa r.pages.length pc⟩).toArray = w3 at *
          generalize wr.heap.size = y at *
          have d0 := N3.cell 0
          simp [Qe.cells] at d0
          by_cases hfa : from_ ≤ at_
          · have hfil : (q2.map Qe.ent) ++ [(at_, r)] = q.map Qe.ent ++ ((qe.take (j + 1)).map Qe.ent).filter (fun x => decide (from_ ≤ x.1)) := by
              rw [HTK.out, HQ2.out, List.filter_append]
              simp [Qe.ent, hfa]
            have HFIL := Lib.hid hfil
            obtain ⟨hi0, hz0, hz1, hz2⟩ := id HI.out
            have B4 : Below w3.heap.size w3 (w3.alloc (.cells (Qe.cells ⟨at_, r, .slice ta r.txns.length tc, .slice pa r.pages.length pc⟩).toArray 45)) := (Below.refl _ _).alloc (Nat.le_refl _) _
            have HO4 := Lib.hid (HO3.out.keep B4)
            have HOE4 := Lib.hid (HOE3.out.keep B4)
            have HLX4 := Lib.hid (HLX3.out.keep B4)
            have HB4 := Lib.hid (below2 HB3.out B4)
            have hq4 := HB4.out.size
            have hq2b : q2.length ≤ 8000 := by omega
            simp only [Qe.cells, recCells] at N3
            clear hfil B4 HO3 HOE3 HLX3 HB3 HQ2 HTK
            go_wp2_with (first
              | (refine wpList_load_row rfl 45 _ rfl y rfl 45 _ (0, 0) _ N3 Try.underlying45 rfl (by kernel_rfl) ?_)
              | (at_builtin; refine wpList_append_lies _ rfl (.tmp 36) (.tmp 38) 32 rfl w.heap.size 45 i0 entryZero 12 144 Try.underlying32 hi0 hz0 hz1 hz2 rfl (by decide) _ _ _ rfl HO4.out.own ⟨w3.heap.size, 0, none⟩ 1 1 (Qe.cells ⟨at_, r, .slice ta r.txns.length tc, .slice pa r.pages.length pc⟩) rfl rfl (World.news_of_block (heap_alloc_new w3 _)) (by simp [Qe.cells, recCells, Value.oneCell']) (by omega) (by simp only [maxLen]; omega) (by omega) hq4 _ rfl ?_))
            intro gg cap w5 hown hgrow hat hlt5
            have HO5 := Lib.hid (HO4.out.pushed HLX4.out HXA.out hown hgrow (by rw [World.size_alloc]; exact hat))
            have HOE5 := Lib.hid (HOE4.out.grown hgrow HP.out.2 HP.out.1)
            have HB5 := Lib.hid (show Below w.heap.size w w5 from HB4.out.trans ⟨hgrow.os, hgrow.tape, hgrow.output, hgrow.size, fun b hb => hgrow.block b (Nat.lt_of_lt_of_le hb hq4) fun e => by have := (HO4.out.own.lt b e.symm).1; omega⟩)
            have HP5 : Hid ((∀ x ∈ qe, Apart (.slice (some ⟨gg, 0, none⟩) (q2.length + 1) cap) x) ∧ ∀ b, (Value.slice (some ⟨gg, 0, none⟩) (q2.length + 1) cap).ownBlock = some b → (Value.slice (some ⟨ge, 0, none⟩) qe.length vec).ownBlock ≠ some b) := by
              refine ⟨fun x hx b hb => ?_, fun b hb e => ?_⟩
              · simp only [Value.ownBlock, Option.some.injEq] at hb
                subst hb
                rcases hat with hat | hat
                · exact HP.out.1 x hx _ hat
                · have hl := HOE4.out.lists x hx
                  exact ⟨fun hr e => by have := hl.t.blt hr _ e; rw [World.size_alloc] at this; omega, fun hr e => by have := hl.p.blt hr _ e; rw [World.size_alloc] at this; omega⟩
              · simp only [Value.ownBlock, Option.some.injEq] at hb e
                subst hb
                rcases hat with hat | hat
                · exact HP.out.2 _ hat (by simp [Value.ownBlock, e])
                · have := (HOE4.out.own.lt ge rfl).2
                  rw [World.size_alloc] at this
                  omega
            have HFQ5 : Hid (FreshQ w.heap.size (q2 ++ [⟨at_, r, .slice ta r.txns.length tc, .slice pa r.pages.length pc⟩])) := fun z hz => by
              rcases List.mem_append.1 hz with hz | hz
              · exact HFQ2.out z hz
              · simp at hz; subst hz; exact HFX.out
            clear hown hgrow hat HO4 HOE4 HLX4 HB4
            go_wp2
            go_roundg (qe.length - (j + 1))
            case measure => have := HGJ.out; omega
            case rel => exact ⟨j + 1, q2 ++ [⟨at_, r, .slice ta r.txns.length tc, .slice pa r.pages.length pc⟩], by go_num, rfl, by omega, by simpa using HO5.out, HOE5.out, by rw [List.map_append]; exact HFIL.out, by simp; omega, HB5.out, HP5.out.1, HP5.out.2, HFQ5.out⟩
          · have hfil : q2.map Qe.ent = q.map Qe.ent ++ ((qe.take (j + 1)).map Qe.ent).filter (fun x => decide (from_ ≤ x.1)) := by
              rw [HTK.out, HQ2.out, List.filter_append]
              simp [Qe.ent, hfa]
            have HFIL := Lib.hid hfil
            clear hfil HQ2 HTK
            go_wp2
            go_roundg (qe.length - (j + 1))
            case measure => have := HGJ.out; omega
            case rel => exact ⟨j + 1, q2, by go_num, rfl, by omega, HO3.out, HOE3.out, HFIL.out, by omega, HB3.out, HP.out.1, HP.out.2, HFQ2.out⟩
        · obtain rfl : j = qe.length := by omega
          have hall : q2.map Qe.ent ++ l.rest from_ (k + 1) = l.scan from_ := by
            rw [← HQ.out, HSTEP.out, HES.out, hq2, List.take_length, List.append_assoc]
          have HALL := Lib.hid hall
          have HO := Lib.hid ho2
          have HB := Lib.hid hB3
          have HFQ2 := Lib.hid hfq2
          clear hall ho2 hoe hq2 hB3 hp1 hp2 hfq2 hgj
          go_wp2
          go_roundg (l.end_ - (k + 1))
          case measure => have := HGK.out; omega
          case rel => exact ⟨k + 1, q2, by go_num, rfl, by omega, by omega, by omega, HO.out, HALL.out, by omega, HB.out, HFQ2.out⟩
    · have hdone : q.map Qe.ent = l.scan from_ := by rw [← HQ.out, Wl.rest_end l from_ k (by omega), List.append_nil]
      have HD := Lib.hid hdone
      have hge : (l.end_ : Int) ≤ k := by omega
      clear hdone HQ
      go_wp2_with fail
      refine HE.out.mono ?_
      rintro e w1 ⟨rfl, n1, rfl⟩
      have HO2 := Lib.hid (HO.out.keep (drewN_below wr n1))
      have HB2 := Lib.hid (below2 HB.out (drewN_below wr n1))
      go_wp2
      go_ret
      exact ⟨_, q, rfl, HD.out, HO2.out, HB2.out, HFQ.out⟩
theorem tdiv_pos (x : Int) (h : 0 ≤ x) : x.tdiv 128 = x / 128 := Int.tdiv_eq_ediv_of_nonneg h
theorem tdiv_neg (x : Int) (h : x < 0) : x.tdiv 128 = -((-x) / 128) := by
  have := tdiv_pos (-x) (by omega)
  rw [Int.neg_tdiv] at this
  omega
theorem scan_any (h : IsLog w F g gd l) (from_ : Int) (hw : (Lit.int .i64 from_).wf = true) : Calls Try.prog 29 #[.pointer (some ⟨g, 0, none⟩), .int .i64 from_] w (EntsOut w (l.scan from_)) := by
  have hr : -9223372036854775808 ≤ from_ ∧ from_ ≤ 9223372036854775807 := by simpa [Lit.wf, IntKind.min, IntKind.max, IntKind.signed, IntKind.bits] using hw
  have hd : from_.tdiv 128 ≤ 72057594037927936 ∧ -72057594037927936 ≤ from_.tdiv 128 ∧ (0 ≤ from_.tdiv 128 → from_.tdiv 128 * 128 < from_ + 128) ∧ (0 < from_.tdiv 128 → from_.tdiv 128 * 128 ≤ from_) := by
    rcases Int.lt_or_le from_ 0 with hn | hn
    · rw [tdiv_neg _ hn]; omega
    · rw [tdiv_pos _ hn]; omega
  have hlm := h.1.lm
  have hwr : IntKind.i64.wrap (from_.tdiv 128) = from_.tdiv 128 := IntWalk.i64_in _ (by omega)
  by_cases hc : from_.tdiv 128 ≤ l.low
  · exact scan_from h from_ _ hwr l.low (.inl ⟨hc, rfl⟩) (Wl.rest_low l from_) (by omega)
  · obtain ⟨s, hs⟩ := Int.eq_ofNat_of_zero_le (show 0 ≤ from_.tdiv 128 by omega)
    refine scan_from h from_ _ hwr s (.inr ⟨by omega, by omega⟩) ?_ (by omega)
    rw [← Wl.rest_skip h.1 from_ s (.inl (by omega)) _ l.low rfl (Nat.le_refl _) (by omega), Wl.rest_low]
end
end Go.Proofs.Ytopihafmajadfaa

/- Package wal: Read. -/
namespace Go.Proofs.Ytopihafmajadfaa
open Go.RowKit

/-- What stands at a place. -/
def Wl.readAt (l : Wl) (at_ : Int) : Rc × Int := match (l.entries (at_.tdiv 128)).find? (fun x => x.1 == at_) with | some x => (x.2, 0) | none => (.nil, 7)
def ReadOut (w : World) (x : Rc × Int) (e : Ending) (w' : World) : Prop := ∃ v, e = .returned (.tuple #[v, .int .i64 x.2]) ∧ IsRec w' v x.1 ∧ Below w.heap.size w w'
section
variable {w : World} {F : Foot} {g gd : Nat} {l : Wl}
set_option maxRecDepth 100000 in
set_option maxHeartbeats 8000000 in
theorem lread_any (h : IsLog w F g gd l) (at_ : Int) (hw : (Lit.int .i64 at_).wf = true) : Calls Try.prog 30 #[.pointer (some ⟨g, 0, none⟩), .int .i64 at_] w (ReadOut w (l.readAt at_)) := by
  have hr : -9223372036854775808 ≤ at_ ∧ at_ ≤ 9223372036854775807 := by simpa [Lit.wf, IntKind.min, IntKind.max, IntKind.signed, IntKind.bits] using hw
  have hd : at_.tdiv 128 ≤ 72057594037927936 ∧ -72057594037927936 ≤ at_.tdiv 128 := by
    rcases Int.lt_or_le at_ 0 with hn | hn
    · rw [tdiv_neg _ hn]; omega
    · rw [tdiv_pos _ hn]; omega
  have hwr : IntKind.i64.wrap (at_.tdiv 128) = at_.tdiv 128 := IntWalk.i64_in _ (by omega)
  have HLOG := Lib.hid h
  have EN : Hid (∀ W, Below w.heap.size w W → Calls Try.prog 59 #[.pointer (some ⟨g, 0, none⟩), .int .i64 (at_.tdiv 128)] W (EntsOut W (l.entries (at_.tdiv 128)))) := fun W hW => entries_any (h.below hW) _
  have hec := entries_count h.1 (at_.tdiv 128)
  have hra : l.readAt at_ = match (l.entries (at_.tdiv 128)).find? (fun x => x.1 == at_) with | some x => (x.2, 0) | none => (.nil, 7) := rfl
  have HRA := Lib.hid hra
  clear hra hr hd hw h
  generalize hdd : at_.tdiv 128 = d at *
  rw [← hdd] at hwr
  have hwr2 : IntKind.i64.wrap (at_.tdiv 128) = d := by rw [hwr, hdd]
  clear hdd hwr
  generalize l.entries d = es at *
  have b0 := Blk.new w 26 (recCells .nil (.slice none 0 0) (.slice none 0 0))
  have hb0 : Below w.heap.size w (w.alloc (.cells (recCells .nil (.slice none 0 0) (.slice none 0 0)) 26)) := (Below.refl _ _).alloc (Nat.le_refl _) _
  have B0 := Lib.hid b0
  have HB0 := Lib.hid hb0
  clear b0 hb0
  go_enter Try.func30, Try.ntmps30
  go_wp2_with fail
  refine (EN.out _ HB0.out).mono ?_
  rintro e w2 ⟨ve, qe, rfl, hqe, hoe, hbe, hfe⟩
  have BR := Lib.hid (B0.out.keep hbe B0.out.lt)
  have HB2 := Lib.hid (HB0.out.trans (hbe.mono HB0.out.size))
  have hge := HB0.out.size
  have HOE := Lib.hid (hoe.base hge)
  rw [World.size_alloc] at hfe
  have HFE := Lib.hid hfe
  have hqel : qe.length ≤ 112 := by rw [← hqe, List.length_map] at hec; exact hec
  have HES : Hid (es = qe.map Qe.ent) := hqe.symm
  obtain ⟨vea, vec, hve⟩ := own_slice hoe.own
  subst hve
  have hqi : (qe.length : Int) ≤ 112 := by omega
  clear hoe hqe hbe hec HB0 B0 hge EN hfe hwr2
  go_wp2_with fail
  go_loopw [16] (fun vj wr => ∃ j : Nat, vj = .int .i64 j ∧ j ≤ qe.length ∧ OwnE wr w.heap.size (.slice vea qe.length vec) qe ∧ Blk wr w.heap.size 26 (recCells .nil (.slice none 0 0) (.slice none 0 0)) ∧ Below w.heap.size w wr ∧ es.find? (fun x => x.1 == at_) = ((qe.drop j).map Qe.ent).find? (fun x => x.1 == at_)) (fun vj _ => qe.length - (intOf vj).toNat)
  case atStart => exact ⟨0, rfl, Nat.zero_le _, HOE.out, BR.out, HB2.out, by rw [HES.out]; rfl⟩
  case round =>
    obtain ⟨j, rfl, hj, hoe, hbr, hB, hf⟩ := hrel
    have HF := Lib.hid hf
    clear hf HOE BR HB2
    by_cases hjl : j < qe.length
    · obtain ⟨ge, ce, hve, _, _⟩ := own_form hoe.own (by omega)
      cases hve
      have hlx := hoe.lists _ (List.getElem_mem hjl)
      have hfx := HFE.out _ (List.getElem_mem hjl)
      have HFX := Lib.hid hfx
      clear hfx
      have hdr : qe.drop j = qe[j] :: qe.drop (j + 1) := List.drop_eq_getElem_cons hjl
      have hrange : wr.rangeAt ge (j * 12) qe[j].cells := fun i u hu => by
        have hi : i < 12 := by have := (List.getElem?_eq_some_iff.1 hu).1; rwa [Qe.cells_len] at this
        rw [hoe.own.cellAt (j * 12 + i) (by omega), entsV_at qe j hjl i hi, hu]
      have HDR := Lib.hid hdr
      have HOE := Lib.hid hoe
      have HB := Lib.hid hB
      have HLX := Lib.hid hlx
      have BR := Lib.hid hbr
      clear hdr hoe hB hbr
      have hji : (j : Int) < qe.length := by omega
      generalize qe[j] = x at *
      obtain ⟨a, r, vt, vp⟩ := x
      obtain ⟨ta, tc, hvt⟩ := hlx.t.form
      obtain ⟨pa, pc, hvp⟩ := hlx.p.form
      simp only at hvt hvp
      subst hvt hvp
      clear hlx
      have hn := Blk.new wr 45 #[.int .i64 0, .int .i64 0, .int .i64 0, .int .i64 0, .int .i64 0, .int .i64 0, .int .i64 0, .int .i64 0, .string ⟨#[]⟩, .string ⟨#[]⟩, .slice none 0 0, .slice none 0 0]
      have N3 := hn.setRow (Qe.cells ⟨a, r, .slice ta r.txns.length tc, .slice pa r.pages.length pc⟩).toArray
      have hb3 := below_setRow ((Below.refl wr.heap.size wr).alloc (Nat.le_refl _) (.cells #[.int .i64 0, .int .i64 0, .int .i64 0, .int .i64 0, .int .i64 0, .int .i64 0, .int .i64 0, .int .i64 0, .string ⟨#[]⟩, .string ⟨#[]⟩, .slice none 0 0, .slice none 0 0] 45)) (Nat.le_refl _) (Qe.cells ⟨a, r, .slice ta r.txns.length tc, .slice pa r.pages.length pc⟩).toArray
      have HOE3 := Lib.hid (HOE.out.keep hb3)
      have HLX3 := Lib.hid (HLX.out.keep hb3)
      have BR3 := Lib.hid (BR.out.keep hb3 BR.out.lt)
      have HB3 := Lib.hid (below2 HB.out hb3)
      have hyl : w.heap.size < wr.heap.size := BR.out.lt
      go_upto_region 6 with (first
        | (refine wpList_load_mid rfl 45 _ rfl ge (j * 12) rfl _ _ hrange Try.underlying45 rfl (by kernel_rfl) ?_)
        | (refine wpList_store_row rfl 45 _ _ rfl wr.heap.size _ rfl rfl 45 _ hn (by kernel_rfl) rfl (by simp [Qe.cells, recCells, Value.oneCell']) ?_))
      change Code.wp _ _ _ _ ((wr.alloc (.cells #[.int .i64 0, .int .i64 0, .int .i64 0, .int .i64 0, .int .i64 0, .int .i64 0, .int .i64 0, .int .i64 0, .string ⟨#[]⟩, .string ⟨#[]⟩, .slice none 0 0, .slice none 0 0] 45)).setRow wr.heap.size (Qe.cells ⟨a, r, .slice ta r.txns.length tc, .slice pa r.pages.length pc⟩).toArray)
      clear hn hb3 hrange HOE HLX HB BR
      generalize (wr.alloc (.cells #[.int .i64 0, .int .i64 0, .int .i64 0, .int .i64 0, .int .i64 0, .int .i64 0, .int .i64 0, .int .i64 0, .string ⟨#[]⟩, .string ⟨#[]⟩, .slice none 0 0, .slice none 0 0] 45)).setRow wr.heap.size (Qe.cells ⟨a, r, .slice ta r.txns.length tc, .slice pa r.pages.length pc⟩).toArray = w3 at *
      generalize wr.heap.size = y at *
      have d0 := N3.cell 0
      simp [Qe.cells] at d0
      by_cases hfa : a = at_
      · have hfnd : l.readAt at_ = (r, 0) := by
          rw [HRA.out, HF.out, HDR.out, List.map_cons, List.find?_cons]
          simp [Qe.ent, hfa]
        have HFND := Lib.hid hfnd
        subst hfa
        have hrange2 : w3.rangeAt y 1 (recCells r (.slice ta r.txns.length tc) (.slice pa r.pages.length pc)).toList := fun i u hu => by
          have := N3.cell (1 + i)
          rw [List.getElem?_toArray] at this
          rw [this, Nat.add_comm]
          exact hu
        have br := BR3.out
        have LX4 : Hid (Lists (w3.setRow w.heap.size (recCells r (.slice ta r.txns.length tc) (.slice pa r.pages.length pc))) r (.slice ta r.txns.length tc) (.slice pa r.pages.length pc)) := by
          exact HLX3.out.keepA ((Only.refl (· = w.heap.size) w3).setRow (.inl rfl) _) (fun hr b hb e => by subst e; have := HFX.out.1 hr _ hb; omega) (fun hr b hb e => by subst e; have := HFX.out.2 hr _ hb; omega)
        have HB4 := Lib.hid (below_setRow HB3.out (Nat.le_refl _) (recCells r (.slice ta r.txns.length tc) (.slice pa r.pages.length pc)))
        clear hfnd HRA HF HDR
        go_wp2_with (first
          | (refine wpList_load_mid rfl 26 _ rfl y 1 rfl _ _ hrange2 Try.underlying26 rfl (by kernel_rfl) ?_)
          | (refine wpList_store_row rfl 26 _ _ rfl w.heap.size _ rfl rfl 26 _ br (by kernel_rfl) rfl (by simp [recCells, Value.oneCell']) ?_))
        refine bodyPost_ret (results_row_tmp rfl _ _ w.heap.size 26 (recCells r (.slice ta r.txns.length tc) (.slice pa r.pages.length pc)) _ rfl (br.setRow _) Try.underlying26 rfl (by kernel_rfl)) rfl ?_
        rw [HFND.out]
        exact ⟨_, rfl, ⟨_, _, rfl, LX4.out⟩, HB4.out⟩
      · have hnx : es.find? (fun x => x.1 == at_) = ((qe.drop (j + 1)).map Qe.ent).find? (fun x => x.1 == at_) := by
          rw [HF.out, HDR.out, List.map_cons, List.find?_cons]
          have : ((Qe.ent ⟨a, r, .slice ta r.txns.length tc, .slice pa r.pages.length pc⟩).1 == at_) = false := by simpa [Qe.ent] using hfa
          rw [this]
        have HNX := Lib.hid hnx
        have hne : (a == at_) = false := by simpa using hfa
        clear hnx hfa HF HDR
        go_wp2
        go_roundw
        case rel => exact ⟨j + 1, by go_num, by omega, HOE3.out, BR3.out, HB3.out, HNX.out⟩
        case measure => simp [intOf]; omega
    · obtain rfl : j = qe.length := by omega
      have hfnd : l.readAt at_ = (.nil, 7) := by
        rw [HRA.out, HF.out, List.drop_length]
        rfl
      have HFND := Lib.hid hfnd
      have HB := Lib.hid (below_setRow hB (Nat.le_refl _) (recCells .nil (.slice none 0 0) (.slice none 0 0)))
      clear hfnd HRA HF hoe hB
      go_wp2_with (refine wpList_store_row rfl 26 _ _ rfl w.heap.size _ rfl rfl 26 _ hbr (by kernel_rfl) rfl (by simp [Value.oneCell']) ?_)
      refine bodyPost_ret (results_row_tmp rfl _ _ w.heap.size 26 (recCells .nil (.slice none 0 0) (.slice none 0 0)) _ rfl (hbr.setRow _) Try.underlying26 rfl (by kernel_rfl)) rfl ?_
      rw [HFND.out]
      exact ⟨_, rfl, ⟨_, _, rfl, Lists.nil _ _ rfl rfl⟩, HB.out⟩
end
end Go.Proofs.Ytopihafmajadfaa
