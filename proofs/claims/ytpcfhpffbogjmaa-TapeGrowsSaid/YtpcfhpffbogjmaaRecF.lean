/- Package record: Read, at a place of a text; where the reading is given up it is caught. -/
import Derived.Test.YtpcfhpffbogjmaaRecE
import Derived.Tactics
import Derived.Tactics2
import Derived.Defers
import Derived.Recover
import Derived.Laws.Pointers
namespace Go.Proofs.Ytpcfhpffbogjmaa
open Go.RowKit

theorem catch_panicking (p : Addr) (x : Int) (u : TypeId) (pv : Value) (older : List PanicEntry) (w : World) (hc : w.cell? p = some (.int .i64 x)) (hz : w.frozen? p = false) :
    CallsD Try.prog 63 #[.pointer (some p)] (.panicking ({ v := .iface u pv, recovered := false } :: older)) w fun e u' w' =>
      e = .returned (.tuple #[]) ∧ u' = .panicking ({ v := .iface u pv, recovered := true } :: older) ∧ w' = w.setCell p (.int .i64 3) := by
  refine callsD_of_wpS Try.func63 rfl fun c₀ cs hu => ?_
  apply wpS_seq
  apply wpS_region
  simp [wpOpsS, go_sem, recoverD, hu, Try.ntmps63, Exit.thenS]
  refine wpS_cond (t := true) (by simp [Act.eval, Array.replicate]) ?_
  simp only [if_true]
  apply wpS_region
  simp [wpOpsS, go_sem, hc, hz, bodyPostS, results, Try.results63]

theorem catch_idle (p : Addr) (w : World) :
    CallsD Try.prog 63 #[.pointer (some p)] .returning w fun e u' w' => e = .returned (.tuple #[]) ∧ u' = .returning ∧ w' = w := by
  refine callsD_of_wpS Try.func63 rfl fun c₀ cs hu => ?_
  apply wpS_seq
  apply wpS_region
  simp [wpOpsS, go_sem, recoverD, hu, Try.ntmps63, Exit.thenS]
  refine wpS_cond (t := false) (by simp [Act.eval, Array.replicate]) ?_
  simp only [Bool.false_eq_true, if_false]
  refine wpS_of_wp (wp_skip ?_)
  cases c₀
  simp_all [bodyPostS, results, Try.results63]

/-- What is read at a place: the record, the place behind it, an error. -/
def readOut (s : ByteArray) : Option (Rc × List UInt8) → Rc × Int × Int
  | some (r, l) => (r, (s.size : Int) - l.length, 0)
  | none => (.nil, 0, 3)
def readR (s : ByteArray) (at_ : Int) : Rc × Int × Int :=
  if at_ < 0 ∨ (s.size : Int) < at_ then (.nil, 0, 2) else readOut s (recP (s.data.toList.drop at_.toNat))
/-- Three answers, the first one a record. -/
def Reads3 (w : World) (x : Rc × Int × Int) (e : Ending) (w' : World) : Prop :=
  ∃ v, e = .returned (.tuple #[v, .int .i64 x.2.1, .int .i64 x.2.2]) ∧ IsRec w' v x.1 ∧ Below w.heap.size w w'

/-- Three answers, the first one a record whose rows lie in blocks of the call's own. -/
def Reads3N (w : World) (x : Rc × Int × Int) (e : Ending) (w' : World) : Prop :=
  ∃ vt vp, e = .returned (.tuple #[recV x.1 vt vp, .int .i64 x.2.1, .int .i64 x.2.2]) ∧ Lists w' x.1 vt vp ∧ New w vt ∧ New w vp ∧ Below w.heap.size w w'
theorem Reads3N.plain {w : World} {x : Rc × Int × Int} {e : Ending} {w' : World} (h : Reads3N w x e w') : Reads3 w x e w' := by
  obtain ⟨vt, vp, h1, h2, _, _, h5⟩ := h
  exact ⟨_, h1, ⟨vt, vp, rfl, h2⟩, h5⟩

theorem results_three {P : Program} {fn : Func} {p u q : Tmp} {ty tz : TypeId} (h : fn.results = #[.cell p ty, .tmp u, .cell q tz]) (tmps : Array Value) (w : World) (g g2 : Nat) (t : TypeId) (cs : Array Value) (d : TypeDesc) (v : Value)
    (hp : tmps.getD p undef = .pointer (some ⟨g, 0, none⟩)) (hg : Blk w g t cs)
    (hu : P.underlying ty = some d) (hd : (match d with | .struct _ | .array _ _ => true | _ => false) = true) (hi : (P.info? ty).map (·.size) = some cs.size)
    (hq : tmps.getD q undef = .pointer (some ⟨g2, 0, none⟩)) (hz : P.underlying tz = some (.int .i64)) (hv : w.cell? ⟨g2, 0, none⟩ = some v) :
    (results fn tmps).run P w = .ok (.tuple #[.agg cs, tmps.getD u undef, v]) w := by
  have hp' : tmps[p]?.getD undef = .pointer (some ⟨g, 0, none⟩) := by simpa using hp
  have hq' : tmps[q]?.getD undef = .pointer (some ⟨g2, 0, none⟩) := by simpa using hq
  have h1 : (loadVar tz ⟨g2, 0, none⟩).run P w = .ok v w := by
    simp [loadVar, isAgg, run_underlying hz, go_sem, hv]
  simp [results, h, hp', hq', asAddr, run_loadVar_row w g t ty cs (0, 0) d hg hu hd hi, h1]

set_option maxRecDepth 100000 in
set_option maxHeartbeats 4000000 in
theorem read_range (s : ByteArray) (at_ : Int) (w : World) (h : at_ < 0 ∨ (s.size : Int) < at_) :
    Calls Try.prog 47 #[.string s, .int .i64 at_] w (Reads3N w (readR s at_)) := by
  unfold readR
  rw [if_pos h]
  have hmf : ∀ (fn : Fn) (first cap : Array Value) (w : World), (Instr.makeFunc fn first cap).run Try.prog w = .ok (.func fn first cap) w := fun _ _ _ _ => rfl
  go_enter_defers Try.func47, Try.ntmps47
  go_wp2
  all_goals
    refine ⟨_, results_three rfl _ _ w.heap.size (w.heap.size + 1) 50 (recCells .nil (.slice none 0 0) (.slice none 0 0)) _ (.int .i64 2) rfl ((Blk.new _ _ _).alloc _) Try.underlying50 rfl (by kernel_rfl) rfl Try.underlying23 ?_, ?_⟩
    · have := (Blk.new (w.alloc (.cells (recCells .nil (.slice none 0 0) (.slice none 0 0)) 50)) 23 #[.int .i64 2]).cell 0
      rw [World.size_alloc] at this
      exact this
    · exact ⟨_, _, rfl, Lists.nil _ _ rfl rfl, New.nil _, New.nil _, ((Below.refl _ _).alloc (Nat.le_refl _) _).alloc (by simp) _⟩

theorem setRow_same {w : World} {g t : Nat} {cs : Array Value} (h : Blk w g t cs) : Below w.heap.size w (w.setRow g cs) := by
  have hb := h.setRow cs
  refine ⟨rfl, rfl, rfl, by simp [World.setRow], fun b _ => ?_⟩
  by_cases e : b = g
  · subst e; exact hb.trans h.symm
  · exact setRow_other w g b cs e

set_option maxRecDepth 100000 in
set_option maxHeartbeats 4000000 in
theorem read_in (s : ByteArray) (k : Nat) (w : World) (hs : s.size ≤ maxLen) (h : k ≤ s.size) (o : Option (Rc × List UInt8)) (ho : o = recP (s.data.toList.drop k)) :
    Calls Try.prog 47 #[.string s, .int .i64 k] w (Reads3N w (readOut s o)) := by
  have HS := Lib.hid hs
  have HO := Lib.hid ho
  unfold maxLen at hs
  clear ho
  have hmf : ∀ (fn : Fn) (first cap : Array Value) (w : World), (Instr.makeFunc fn first cap).run Try.prog w = .ok (.func fn first cap) w := fun _ _ _ _ => rfl
  go_enter_defers Try.func47, Try.ntmps47
  go_wp2_with fail
  change Calls _ _ _ (((w.alloc (.cells (recCells .nil (.slice none 0 0) (.slice none 0 0)) 50)).alloc (.cells #[.int .i64 0] 23)).alloc (.cells #[.string s, .int .i64 k] 121)) _
  have a1 := (Blk.new w 50 (recCells .nil (.slice none 0 0) (.slice none 0 0)))
  have a2 := (Blk.new (w.alloc (.cells (recCells .nil (.slice none 0 0) (.slice none 0 0)) 50)) 23 #[.int .i64 0])
  have a3 := (Blk.new ((w.alloc (.cells (recCells .nil (.slice none 0 0) (.slice none 0 0)) 50)).alloc (.cells #[.int .i64 0] 23)) 121 #[.string s, .int .i64 k])
  have hb := (((Below.refl w.heap.size w).alloc (Nat.le_refl _) (.cells (recCells .nil (.slice none 0 0) (.slice none 0 0)) 50)).alloc (by simp) (.cells #[.int .i64 0] 23)).alloc (by simp; omega) (.cells #[.string s, .int .i64 k] 121)
  replace a1 := (a1.alloc (.cells #[.int .i64 0] 23)).alloc (.cells #[.string s, .int .i64 k] 121)
  replace a2 := a2.alloc (.cells #[.string s, .int .i64 k] 121)
  simp only [World.size_alloc] at a2 a3
  generalize ((w.alloc (.cells (recCells .nil (.slice none 0 0) (.slice none 0 0)) 50)).alloc (.cells #[.int .i64 0] 23)).alloc (.cells #[.string s, .int .i64 k] 121) = w0 at *
  refine (record_any (o := o) ⟨k, h, HS.out, rfl, a3⟩ HO.out).mono ?_
  intro e w1 hg
  cases o with
  | none =>
    obtain ⟨rfl, ho⟩ := hg
    have b1 := ho.blk a1 (by show ¬ w.heap.size = _; omega)
    have b2 := ho.blk a2 (by show ¬ w.heap.size + 1 = _; omega)
    have c2 := b2.cell 0
    have f2 := b2.frozen 0
    simp at c2
    have B := Lib.hid (ho.below hb (by have := a3.lt; omega) (fun b hb => by show w.heap.size ≤ b; have : b = w.heap.size + 1 + 1 := hb; omega))
    clear a1 a2 a3 ho hb
    unfold gaveUp
    go_wp2_with fail
    refine leaves_cons (f := 63) (args := #[.pointer (some ⟨w.heap.size + 1, 0, none⟩)]) (by simp) (by simp [go_sem]) ?_
    refine (catch_panicking ⟨w.heap.size + 1, 0, none⟩ 0 _ _ [] _ c2 f2).mono ?_
    rintro e u' w'' ⟨rfl, rfl, rfl⟩
    refine ⟨_, results_three rfl _ _ w.heap.size (w.heap.size + 1) 50 (recCells .nil (.slice none 0 0) (.slice none 0 0)) _ (.int .i64 3) rfl (b1.far (by show w.heap.size ≠ w.heap.size + 1; omega) _) Try.underlying50 rfl (by kernel_rfl) rfl Try.underlying23 ?_, ?_⟩
    · exact (b2.set 0 _).cell 0
    · exact ⟨_, _, rfl, Lists.nil _ _ rfl rfl, New.nil _, New.nil _, B.out.setCell (by show w.heap.size ≤ w.heap.size + 1; omega) _⟩
  | some x =>
    obtain ⟨r, l⟩ := x
    obtain ⟨vt, vp, rfl, hl, hr, ho, nt, np⟩ := hg
    have NT2 := Lib.hid (nt.mono hb.size)
    have NP2 := Lib.hid (np.mono hb.size)
    have b1 := ho.blk a1 (by show ¬ w.heap.size = _; omega)
    have b2 := ho.blk a2 (by show ¬ w.heap.size + 1 = _; omega)
    have B := Lib.hid (ho.below hb (by have := a3.lt; omega) (fun b hb => by show w.heap.size ≤ b; have : b = w.heap.size + 1 + 1 := hb; omega))
    have one := hl.one
    go_wp2_with (refine wpList_store_row rfl 50 _ _ rfl w.heap.size _ rfl rfl 50 _ b1 (by kernel_rfl) rfl one ?_)
    obtain ⟨k', hk', _, hl', a3'⟩ := hr
    have hkl : (k' : Int) = (s.size : Int) - l.length := by
      rw [hl', List.length_drop]
      have : s.data.toList.length = s.size := rfl
      omega
    have r1 := b1.setRow (recCells r vt vp)
    have r2 := b2.farRow (k := w.heap.size) (by omega) (recCells r vt vp)
    have r3 := a3'.farRow (k := w.heap.size) (by omega) (recCells r vt vp)
    have hs1 : Only (· = w.heap.size) w1 (w1.setRow w.heap.size (recCells r vt vp)) := (Only.refl (· = w.heap.size) w1).setRow (g := w.heap.size) (.inl rfl) _
    have hlt := a3.lt
    have hl2 := hl.keepS hs1 (fun b h e => by have := nt b h; have : b = w.heap.size := e; omega) (fun b h e => by have := np b h; have : b = w.heap.size := e; omega)
    have B2 := hs1.below B.out (B.out.size) (fun b hb => by have : b = w.heap.size := hb; omega)
    clear hs1 b1 b2 a3' ho hl a1 a2 a3 hb B HO
    generalize w1.setRow w.heap.size (recCells r vt vp) = w2 at *
    have d1 := r3.cell 1
    simp at d1
    have z1 := r2.frozen 0
    have d2 := r2.cell 0
    simp at d2
    have HKL := Lib.hid hkl
    clear hkl hl'
    refine' wp_region_conf 4 [.is _, .is _, .is _, .is undef] (by kernel_rfl) (by kernel_rfl) (by kernel_rfl) (by kernel_rfl) rfl ?main
    case main =>
      iterate 3
        refine obs_is (fun w3 hE2 _ => ?_) ?_
        · have q1 := r1.drew.keep hE2 r1.lt
          have q3 := r3.drew.keep hE2 r3.lt
          have e1 := q3.cell 1
          simp at e1
          clear q3
          go_wp2_with (refine wpList_load_row rfl 50 _ rfl w.heap.size rfl 50 _ (0, 0) _ q1 Try.underlying50 rfl (by kernel_rfl) ?_)
          exact post_is (Below.refl _ _)
        simp only [Act.put, List.setIfInBounds_toArray, List.set_cons_zero, List.set_cons_succ]
      refine obs_is (fun w3 hE2 _ => ?_) ?_
      · have q1 := r1.drew.keep hE2 r1.lt
        go_wp2_with (refine wpList_store_row rfl 50 _ _ rfl w.heap.size _ rfl rfl 50 _ q1 (by kernel_rfl) rfl one ?_)
        exact post_is (setRow_same q1)
      simp only [Act.put]
      refine obs_end fun w3 hE3 _ => ?_
      have p1 := r1.drew.keep hE3 r1.lt
      have p2 := r2.drew.keep hE3 r2.lt
      have hl4 := hl2.keep (w' := w3) ⟨hE3.os, hE3.tape, hE3.output, hE3.size, hE3.block⟩
      have B4 : Below w.heap.size w w3 := B2.trans ⟨hE3.os, hE3.tape, hE3.output, hE3.size, fun b hb => hE3.block b (by have := B2.size; show b < w2.heap.size; omega)⟩
      clear hE3 r1 r2 r3 d1 d2 z1 hl2 B2
      have z1 := p2.frozen 0
      have d2 := p2.cell 0
      simp at d2
      change wpList _ _ _ _ _ _
      have HL := Lib.hid hl4
      have HB := Lib.hid B4
      have NT := Lib.hid nt
      have NP := Lib.hid np
      clear hl4 B4 nt np
      go_wp2
      refine leaves_cons (f := 63) (args := #[.pointer (some ⟨w.heap.size + 1, 0, none⟩)]) (by simp) (by simp [go_sem]) ?_
      refine (catch_idle ⟨w.heap.size + 1, 0, none⟩ _).mono ?_
      rintro e u' w'' ⟨rfl, rfl, rfl⟩
      refine ⟨_, results_three rfl _ _ w.heap.size (w.heap.size + 1) 50 (recCells r vt vp) _ (.int .i64 0) rfl (p1.far (by show w.heap.size ≠ w.heap.size + 1; omega) _) Try.underlying50 rfl (by kernel_rfl) rfl Try.underlying23 ?_, ?_⟩
      · exact (p2.set 0 _).cell 0
      · refine ⟨vt, vp, ?_, ?_, NT2.out, NP2.out, HB.out.setCell (by show w.heap.size ≤ w.heap.size + 1; omega) _⟩
        · show Ending.returned (.tuple #[.agg (recCells r vt vp), .int .i64 (k' : Int), .int .i64 0]) = _
          rw [HKL.out]
          rfl
        · refine HL.out.keepS (S := (· = w.heap.size + 1)) ((Only.refl (· = w.heap.size + 1) w3).set (p := ⟨w.heap.size + 1, 0, none⟩) (.inl rfl) _) ?_ ?_
          · exact fun b hb e => by have := NT.out b hb; have : b = w.heap.size + 1 := e; omega
          · exact fun b hb e => by have := NP.out b hb; have : b = w.heap.size + 1 := e; omega

theorem rdRead_new (s : ByteArray) (at_ : Int) (w : World) (hs : s.size ≤ maxLen) : Calls Try.prog 47 #[.string s, .int .i64 at_] w (Reads3N w (readR s at_)) := by
  by_cases h : at_ < 0 ∨ (s.size : Int) < at_
  · exact read_range s at_ w h
  · obtain ⟨k, rfl⟩ := Int.eq_ofNat_of_zero_le (show 0 ≤ at_ by omega)
    have := read_in s k w hs (by omega) _ rfl
    unfold readR
    rw [if_neg h]
    exact this
theorem rdRead_any (s : ByteArray) (at_ : Int) (w : World) (hs : s.size ≤ maxLen) : Calls Try.prog 47 #[.string s, .int .i64 at_] w (Reads3 w (readR s at_)) :=
  (rdRead_new s at_ w hs).mono fun _ _ h => h.plain
end Go.Proofs.Ytpcfhpffbogjmaa
