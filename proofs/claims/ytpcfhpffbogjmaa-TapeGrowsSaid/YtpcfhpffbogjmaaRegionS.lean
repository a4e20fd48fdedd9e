/- As Region; one operation of the head may write blocks that were there: its writing is told by what it yields; nothing of the program is imported. -/
import Derived.Test.YtpcfhpffbogjmaaRegion
import Derived.Test.YtpcfhpffbogjmaaOnly
namespace Go.Proofs.Ytpcfhpffbogjmaa
open Go.RowKit

/-- What an operation yields; whether it writes blocks of S. -/
structure YieldS (S : Nat → Prop) where
  c : Option Value
  st : Bool
  p : Value → World → Prop
  mono : ∀ x w w', Below w.heap.size w w' → p x w → p x w'
  monoS : st = false → ∀ x w w', Only S w w' → p x w → p x w'
  tight : ∀ d, c = some d → ∀ x w, p x w → x = d
section
variable {S : Nat → Prop}
def YieldS.is (d : Value) : YieldS S := ⟨some d, false, fun x _ => x = d, fun _ _ _ _ h => h, fun _ _ _ _ _ h => h, fun d' h x w e => by cases h; exact e⟩
def YieldS.slice (B : Nat) (n : Nat) (t : TypeId) (cs : Array Value) : YieldS S :=
  ⟨none, false, fun x w => ∃ g, B ≤ g ∧ ¬ S g ∧ x = .slice (some ⟨g, 0, none⟩) n n ∧ Blk w g t cs, fun _ _ _ hb ⟨g, h1, h2, h3, h4⟩ => ⟨g, h1, h2, h3, h4.keep hb h4.lt⟩, fun _ _ _ _ hb ⟨g, h1, h2, h3, h4⟩ => ⟨g, h1, h2, h3, hb.blk h4 h2⟩, fun _ h => by cases h⟩
/-- It wrote: block g is now just these cells. -/
def YieldS.wrote (g : Nat) (t : TypeId) (cs : Array Value) : YieldS S := ⟨none, true, fun _ w => Blk w g t cs, fun _ _ _ hb h => h.keep hb h.lt, fun h => (by cases h), fun _ h => by cases h⟩
/-- It wrote: block g is now such that p holds. -/
def WRel (V : YieldS S) (w w' : World) : Prop := if V.st = true then Only S w w' else Below w.heap.size w w'
/-- What is known ahead of it: whoever writes S finds it as it was. -/
def Have (V : YieldS S) (w w' : World) : Prop := if V.st = true then Below w.heap.size w w' else Only S w w'
theorem WRel.only {V : YieldS S} {w0 w w' : World} (h : WRel V w w') (h0 : Only S w0 w) : Only S w0 w' := by
  unfold WRel at h
  split at h
  · exact h0.trans h
  · exact h0.more h
theorem WRel.keep {V V' : YieldS S} {w w' : World} {x : Value} (h : WRel V w w') (hs : V.st = true → V'.st = true → False) (hp : V'.p x w) : V'.p x w' := by
  unfold WRel at h
  split at h
  · rename_i hv
    cases hv' : V'.st with
    | true => exact (hs hv hv').elim
    | false => exact V'.monoS hv' _ _ _ h hp
  · exact V'.mono _ _ _ h hp
def noneSt : List Bool → Bool
  | [] => true
  | b :: l => !b && noneSt l
def oneSt : List Bool → Bool
  | [] => true
  | true :: l => noneSt l
  | false :: l => oneSt l
theorem noneSt_at : ∀ {l : List Bool}, noneSt l = true → ∀ {i : Nat}, l[i]? = some true → False
  | [], _, _, h => by simp at h
  | b :: l, h, 0, hi => by simp at hi; subst hi; simp [noneSt] at h
  | b :: l, h, i + 1, hi => by
    simp only [noneSt, Bool.and_eq_true] at h
    exact noneSt_at h.2 (i := i) (by simpa using hi)
theorem oneSt_at : ∀ {l : List Bool}, oneSt l = true → ∀ {i j : Nat}, l[i]? = some true → l[j]? = some true → i = j
  | [], _, _, _, h, _ => by simp at h
  | b :: l, h, 0, 0, _, _ => rfl
  | b :: l, h, 0, j + 1, hi, hj => by
    simp at hi; subst hi
    exact (noneSt_at (l := l) h (i := j) (by simpa using hj)).elim
  | b :: l, h, i + 1, 0, hi, hj => by
    simp at hj; subst hj
    exact (noneSt_at (l := l) h (i := i) (by simpa using hi)).elim
  | b :: l, h, i + 1, j + 1, hi, hj => by
    cases b with
    | true => exact (noneSt_at (l := l) h (i := i) (by simpa using hi)).elim
    | false => rw [oneSt_at (l := l) h (i := i) (j := j) (by simpa using hi) (by simpa using hj)]
theorem at_map {vs : List (YieldS S)} {i : Nat} {V : YieldS S} (h : vs[i]? = some V) (hs : V.st = true) : (vs.map (·.st))[i]? = some true := by rw [List.getElem?_map, h, ← hs]; rfl
/-- What is asked of one operation. -/
def PostS (V : YieldS S) (C : Act) (d : Option Tmp) (w1 : World) : Exit → Act → World → Prop
  | .normal, a, w => ∃ x, a = C.put d x ∧ V.p x w ∧ WRel V w1 w
  | _, _, _ => False
end
section
variable (P : Program) (ops : Array Oper) {S : Nat → Prop} (w0 : World) (Q : Exit → Act → World → Prop)
def ObsS : Nat → List Oper → List (YieldS S) → Act → List (Nat × YieldS S × Value) → Prop
  | _, tail, [], C, kn => ∀ w, Only S w0 w → (∀ e ∈ kn, e.2.1.p e.2.2 w) → wpList P ops Q tail C w
  | _, [], _ :: _, _, _ => False
  | i, o :: rest, V :: Vs, C, kn =>
    (∀ w, Have V w0 w → (∀ e ∈ kn, Region.waitsFor .any ops i e.1 = true → e.2.1.p e.2.2 w) → wpList P ops (PostS V C o.dst w) [o] C w) ∧
    match V.c with
    | some d => ObsS (i + 1) rest Vs (C.put o.dst d) kn
    | none => ∀ x, ObsS (i + 1) rest Vs (C.put o.dst x) ((i, V, x) :: kn)
end
section
variable {P : Program} {ops : Array Oper} {S : Nat → Prop}
theorem letsOut_postS {V : YieldS S} {C : Act} {d : Option Tmp} {w1 : World} : ¬ LetsOut (PostS V C d w1) := fun ⟨_, _, h⟩ => h
theorem uponS_move {o : Oper} {a C : Act} (hs : a.tmps.size = C.tmps.size) {V : YieldS S} {w1 : World} {K : Act → World → Prop} {Q : Exit → Act → World → Prop}
    (hK : ∀ x w, V.p x w → WRel V w1 w → K (a.put o.dst x) w) {r : Result Next} (h : o.upon P C (PostS V C o.dst w1 .normal) (PostS V C o.dst w1) r) : o.upon P a K Q r := by
  have any : ∀ x w, PostS V C o.dst w1 .normal (C.put o.dst x) w → K (a.put o.dst x) w := by
    rintro x w ⟨y, hy, hp, hb⟩
    rw [put_same hs hy]
    exact hK _ _ hp hb
  cases r with
  | ok n w' =>
    cases n <;> simp only [Oper.upon] at h ⊢
    case value x => exact any _ _ h
    case skip => exact any _ _ h
    case defer d =>
      obtain ⟨y, hy, _, _⟩ := h
      have e := congrArg Act.defers hy
      rw [put_defers, put_defers] at e
      exact absurd (congrArg List.length e) (by simp)
    case enter f args =>
      refine h.mono fun e w'' he => ?_
      cases e with
      | returned v => exact any _ _ he
      | panicked c => exact (he : False).elim
      | outgrown => exact absurd he letsOut_postS
    case row row args => exact Rows.mono h fun v w'' he => any _ _ he
  | halt x w' => cases x <;> simp only [Oper.upon] at h ⊢ <;> exact (h : False).elim
end

section
variable {P : Program} {ops : Array Oper} {n : Nat} {S : Nat → Prop} {vs : List (YieldS S)} {w0 : World} {a0 : Act} {Q : Exit → Act → World → Prop}
def knownS {S : Nat → Prop} (vs : List (YieldS S)) (v : Nat → Value) : Nat → List (Nat × YieldS S × Value)
  | 0 => []
  | i + 1 => match vs[i]? with
    | some V => if V.c.isSome then knownS vs v i else (i, V, v i) :: knownS vs v i
    | none => knownS vs v i
theorem knownS_mem (v : Nat → Value) : ∀ {i : Nat} {e : Nat × YieldS S × Value}, e ∈ knownS vs v i → e.1 < i ∧ vs[e.1]? = some e.2.1 ∧ e.2.2 = v e.1
  | 0, e, h => by cases h
  | i + 1, e, h => by
    unfold knownS at h
    split at h
    · rename_i V hV
      split at h
      · obtain ⟨h1, h2⟩ := knownS_mem v h; exact ⟨by omega, h2⟩
      · rcases List.mem_cons.1 h with rfl | h
        · exact ⟨by simp, hV, rfl⟩
        · obtain ⟨h1, h2⟩ := knownS_mem v h; exact ⟨by omega, h2⟩
    · obtain ⟨h1, h2⟩ := knownS_mem v h; exact ⟨by omega, h2⟩
def FitsS {S : Nat → Prop} (vs : List (YieldS S)) (v : Nat → Value) : Prop := ∀ i V d, vs[i]? = some V → V.c = some d → v i = d
theorem obsS_at (hO : ObsS P ops w0 Q 0 ops.toList vs a0 []) (hl : vs.length ≤ ops.size) {v : Nat → Value} (hf : FitsS vs v) :
    ∀ i, i ≤ vs.length → ObsS P ops w0 Q i (ops.toList.drop i) (vs.drop i) (pre ops a0 v i) (knownS vs v i)
  | 0, _ => by simp only [List.drop_zero]; exact hO
  | i + 1, hi => by
    have ih := obsS_at hO hl hf i (by omega)
    rw [List.drop_eq_getElem_cons (by simp; omega : i < ops.toList.length), List.drop_eq_getElem_cons (by omega : i < vs.length)] at ih
    have hd : dstOf ops i = (ops.toList[i]'(by simp; omega)).dst := by
      unfold dstOf
      rw [Array.getElem?_eq_getElem (by omega)]
      simp
    have hv : vs[i]? = some (vs[i]'(by omega)) := List.getElem?_eq_getElem (by omega)
    have h2 := ih.2
    rw [pre, hd]
    unfold knownS
    rw [hv]
    simp only
    cases hc : (vs[i]'(by omega)).c with
    | some d =>
      rw [hc] at h2
      rw [hf i _ d hv hc]
      simpa [hc] using h2
    | none =>
      rw [hc] at h2
      simpa [hc] using h2 (v i)

structure HeadS (ops : Array Oper) (n : Nat) {S : Nat → Prop} (vs : List (YieldS S)) (w0 : World) (a0 : Act) (v : Nat → Value) (listed : Array Bool) (a : Act) (w : World) : Prop where
  frame : Fr ops a0 a v (fun k => listed.getD k false) n
  closed : Closed ops listed
  size : listed.size = ops.size
  only : Only S w0 w
  quiet : (∀ i V, vs[i]? = some V → V.st = true → listed.getD i false = false) → Below w0.heap.size w0 w
  facts : ∀ i V, vs[i]? = some V → listed.getD i false = true → V.p (v i) w
  fits : FitsS vs v
  tail : ∀ t, n ≤ t → listed.getD t false = false

theorem HeadS.have_ {S : Nat → Prop} {vs : List (YieldS S)} {v : Nat → Value} {listed : Array Bool} {a : Act} {w : World} (H : HeadS ops n vs w0 a0 v listed a w) (hone : oneSt (vs.map (·.st)) = true) {i : Nat} {V : YieldS S} (hvi : vs[i]? = some V) (hff : listed.getD i false = false) : Have V w0 w := by
  unfold Have
  split
  · rename_i hs
    refine H.quiet fun j V' hj hs' => ?_
    rw [oneSt_at hone (at_map hj hs') (at_map hvi hs)]
    exact hff
  · exact H.only
theorem HeadS.next {S : Nat → Prop} {vs : List (YieldS S)} {v : Nat → Value} {listed : Array Bool} {a : Act} {w w' : World} (H : HeadS ops n vs w0 a0 v listed a w) {i : Nat} {V : YieldS S} (hb : WRel V w w') (hvi : vs[i]? = some V) (hil : i < listed.size)
    (hq : ∀ j V', vs[j]? = some V' → V'.st = true → (listed.setIfInBounds i true).getD j false = false) : Below w0.heap.size w0 w' := by
  have hs : V.st = false := by
    cases h : V.st with
    | false => rfl
    | true => have := hq i V hvi h; simp [hil] at this
  unfold WRel at hb
  rw [hs] at hb
  refine below2 (H.quiet fun j V' hj hs' => ?_) (by simpa using hb)
  have h := hq j V' hj hs'
  by_cases hji : i = j
  · subst hji; simp [hil] at h
  · rwa [getD_set_ne false hji] at h
theorem headS_pre {v : Nat → Value} {listed : Array Bool} {a : Act} {w : World} (H : HeadS ops n vs w0 a0 v listed a w) (hall : ∀ i, i < n → listed.getD i false = true) : a = pre ops a0 v n := by
  refine act_ext (by rw [H.frame.defers, pre_defers]) fun t => ?_
  rw [H.frame.slot, pre_slot]
  exact slotv_congr fun k hk _ => ⟨by rw [hall k hk], fun _ => rfl⟩

theorem confS_head (hok : regionOk ops n = true) (htl : tailOk ops n = true) (hn : n ≤ ops.size) (hlen : vs.length = n) (hone : oneSt (vs.map (·.st)) = true) (hO : ObsS P ops w0 Q 0 ops.toList vs a0 []) :
    ∀ (fuel : Nat) (listed : Array Bool) (a : Act) (w : World) (v : Nat → Value), HeadS ops n vs w0 a0 v listed a w → cnt listed ops.size ≤ fuel → wpAny P .any ops Q fuel listed a w := by
  intro fuel
  induction fuel with
  | zero =>
    intro listed a w v H hc
    have hall : ∀ i, i < ops.size → listed.getD i false = true := fun i hi => by
      cases h : listed.getD i false with
      | true => rfl
      | false =>
        have := cnt_pos (listed := listed) (i := i) (by rw [getD_iff (by rw [H.size]; exact hi)]; exact h) hi
        omega
    have hnn : n = ops.size := by
      rcases Nat.lt_or_ge n ops.size with h | h
      · have h1 := H.tail n (Nat.le_refl _); rw [hall n h] at h1; cases h1
      · omega
    have hF := obsS_at hO (by omega) H.fits n (by omega)
    rw [← hlen, List.drop_length, hlen] at hF
    unfold ObsS at hF
    have hfin := hF w H.only (fun e he => by
      obtain ⟨h1, h2, h3⟩ := knownS_mem v he
      rw [h3]
      exact H.facts _ _ h2 (hall _ (by omega)))
    rw [← headS_pre H (fun i hi => hall i (by omega))] at hfin
    exact conf_tail hok htl 0 n (by omega) (Nat.le_refl _) listed a w 0 H.size (fun i hi => hall i (by omega)) (fun i hi => H.tail i hi) hc hfin
  | succ fuel ih =>
    intro listed a w v H hc
    by_cases hall : ∀ i, i < n → listed.getD i false = true
    · have hF := obsS_at hO (by omega) H.fits n (by omega)
      rw [← hlen, List.drop_length, hlen] at hF
      unfold ObsS at hF
      have hfin := hF w H.only (fun e he => by
        obtain ⟨h1, h2, h3⟩ := knownS_mem v he
        rw [h3]
        exact H.facts _ _ h2 (hall _ h1))
      rw [← headS_pre H hall] at hfin
      exact conf_tail hok htl (ops.size - n) n (by omega) (Nat.le_refl _) listed a w _ H.size hall (fun i hi => H.tail i hi) hc hfin
    · -- the least one that is not listed may come up
      have hex : ∃ i, i < n ∧ listed.getD i false = false ∧ ∀ j, j < i → listed.getD j false = true := by
        have : ∃ i, i < n ∧ listed.getD i false = false := Classical.byContradiction fun hno => hall fun i hi => by
          cases h : listed.getD i false with
          | true => rfl
          | false => exact absurd ⟨i, hi, h⟩ hno
        obtain ⟨i, hi⟩ := this
        induction i using Nat.strongRecOn with
        | _ i ihn =>
          by_cases hj : ∃ j, j < i ∧ listed.getD j false = false
          · obtain ⟨j, hji, hjf⟩ := hj
            exact ihn j hji ⟨by omega, hjf⟩
          · refine ⟨i, hi.1, hi.2, fun j hji => ?_⟩
            cases h : listed.getD j false with
            | true => rfl
            | false => exact absurd ⟨j, hji, h⟩ hj
      obtain ⟨l, hln, hlf, hlb⟩ := hex
      have hls : l < ops.size := by omega
      have hlr : l ∈ Region.ready .any ops listed := mem_ready.2 ⟨by rw [getD_iff (by rw [H.size]; exact hls)]; exact hlf, ops[l], Array.getElem?_eq_getElem hls, fun e he hb => hlb e.on (ok_back hok (waits_iff.2 ⟨_, Array.getElem?_eq_getElem hls, e, he, hb, rfl⟩))⟩
      refine ⟨fun h => (by rw [h] at hlr; cases hlr), fun i hi => ?_⟩
      obtain ⟨hf, o, ho, hdeps⟩ := mem_ready.1 hi
      have his := lt_of_at ho
      have hw : ∀ j, Region.waitsFor .any ops i j = true → listed.getD j false = true := fun j hj => by
        obtain ⟨o', ho', e, he, hb, rfl⟩ := waits_iff.1 hj
        have : o' = o := Option.some.inj (ho'.symm.trans ho)
        subst this
        exact hdeps e he hb
      have hin : i < n := by
        rcases Nat.lt_or_ge i n with h | h
        · exact h
        · have := ok_tail htl H.closed h his (i := l) (by omega) hw
          rw [hlf] at this; cases this
      have hff : listed.getD i false = false := by rw [← getD_iff (by rw [H.size]; exact his)]; exact hf
      have hF := obsS_at hO (by omega) H.fits i (by omega)
      have hvi : vs[i]? = some (vs[i]'(by omega)) := List.getElem?_eq_getElem (by omega)
      generalize hV : vs[i]'(by omega) = V at hvi
      rw [List.drop_eq_getElem_cons (by simpa using his), List.drop_eq_getElem_cons (by omega : i < vs.length), hV] at hF
      have hoe : ops.toList[i]'(by simpa using his) = o := by
        have := (Array.getElem?_eq_some_iff.1 ho).2
        simpa using this
      rw [hoe] at hF
      have hstep := hF.1 w (H.have_ hone hvi hff) (fun e he hwt => by
        obtain ⟨h1, h2, h3⟩ := knownS_mem v he
        rw [h3]
        exact H.facts _ _ h2 (hw _ hwt))
      obtain ⟨hsel, hlook⟩ := ok_look hok hin ho
      have hslots : ∀ t ∈ o.looksAt ops, a.tmps[t]? = (pre ops a0 v i).tmps[t]? := fun t ht => by
        rw [H.frame.slot, pre_slot]
        have e1 : slotv ops a0 v (fun _ => true) i t = slotv ops a0 v (fun k => decide (k < i)) n t := by
          rw [slotv_beyond (m := fun k => decide (k < i)) (i := i) (fun k hk => by simp; omega) (by omega)]
          exact slotv_congr fun k hk _ => ⟨by simp [hk], fun _ => rfl⟩
        rw [e1]
        refine slotv_congr fun k hk hkd => ⟨?_, fun _ => rfl⟩
        rcases hlook t ht k hk hkd with h | h
        · rw [hw k h]
          have := ok_back hok h
          simp [this]
        · have hik := ok_back hok h
          cases hkl : listed.getD k false with
          | true => have := H.closed k i hkl h; rw [hff] at this; cases this
          | false => simp; omega
      have heval : ∀ x ∈ o.op.operands, a.eval x = (pre ops a0 v i).eval x := fun x hx => by
        cases x with
        | tmp t =>
          have ht : t ∈ o.looksAt ops := List.mem_append_left _ (List.mem_filterMap.2 ⟨.tmp t, by simpa using hx, rfl⟩)
          simp only [Act.eval, Array.getD_eq_getD_getElem?, hslots t ht]
        | _ => rfl
      have hexec : execOp a.eval o = execOp (pre ops a0 v i).eval o := execOp_congr o hsel heval
      have hwant := wanted_congr (ops := ops) hslots
      have hsize : a.tmps.size = (pre ops a0 v i).tmps.size := by rw [H.frame.size, pre_size]
      have hdst : dstOf ops i = o.dst := by unfold dstOf; rw [ho]; rfl
      have hK : ∀ x w', V.p x w' → WRel V w w' → wpAny P .any ops Q fuel (listed.setIfInBounds i true) (a.put o.dst x) w' := fun x w' hp hb => by
        refine ih _ _ _ (fun k => if k = i then x else v k) ?_ (by have := cnt_set hf his; omega)
        have hil : i < listed.size := by rw [H.size]; exact his
        refine ⟨⟨by rw [put_defers, H.frame.defers], by rw [put_size, H.frame.size], fun t => ?_⟩, ?_, by simp [H.size], hb.only H.only, fun hq => H.next hb hvi hil hq, ?_, ?_, fun t ht => by rw [getD_set_ne false (by omega)]; exact H.tail t ht⟩
        · rw [put_slot, slotv_set hok (m := fun k => listed.getD k false) hin hff (by simp [hil]) (fun k hk => getD_set_ne false (Ne.symm hk)), hdst, H.frame.size, H.frame.slot]
        · intro j k hj hjk
          by_cases hji : i = j
          · subst hji; exact getD_set_true (hw k hjk)
          · rw [getD_set_ne false hji] at hj; exact getD_set_true (H.closed j k hj hjk)
        · intro j V' hj hjl
          by_cases hji : j = i
          · subst hji
            rw [hvi] at hj
            cases hj
            rw [if_pos rfl]; exact hp
          · rw [getD_set_ne false (Ne.symm hji)] at hjl
            rw [if_neg hji]; exact hb.keep (fun h1 h2 => hji (oneSt_at hone (at_map hj h2) (at_map hvi h1))) (H.facts j V' hj hjl)
        · intro j V' d hj hcd
          by_cases hji : j = i
          · subst hji
            rw [hvi] at hj
            cases hj
            show (if j = j then x else v j) = d
            rw [if_pos rfl]; exact V.tight d hcd x w' hp
          · show (if j = i then x else v j) = d
            rw [if_neg hji]; exact H.fits j V' d hj hcd
      unfold wpOp
      rw [ho]
      simp only
      unfold wpList at hstep
      rw [hwant]
      split
      · rename_i hwt
        rw [if_pos hwt] at hstep
        refine .inl ?_
        rcases hstep with hs | ⟨_, hs⟩
        · unfold Oper.wp at hs ⊢
          rw [hexec]
          exact uponS_move hsize hK hs
        · exact absurd hs letsOut_postS
      · rename_i hwt
        rw [if_neg hwt] at hstep
        obtain ⟨y, hy, hp, hb⟩ := hstep
        rw [put_same hsize hy]
        exact hK _ _ hp hb

/-- THE LAW: as wp_region_conf; one operation of the head may write blocks of S, of which no other makes anything: the head of the region (its first n operations) is walked once, in the order of the text, each operation in whatever later world; then its tail. -/
theorem wp_region_store {id : Nat} {a : Act} {w : World} (n : Nat) {S : Nat → Prop} (vs : List (YieldS S)) (hm : P.follows .mixedOrders = true) (hok : regionOk ops n = true) (htl : tailOk ops n = true)
    (hn : decide (n ≤ ops.size) = true) (hlen : vs.length = n) (hone : oneSt (vs.map (·.st)) = true) (h : ObsS P ops w.drew Q 0 ops.toList vs a []) : (Code.region id ops true).wp P Q a w := by
  refine wp_region_any hm ?_
  have hn' : n ≤ ops.size := of_decide_eq_true hn
  have hall : ∀ l, cnt (Array.replicate ops.size false) l ≤ l := by
    intro l
    induction l with
    | zero => exact Nat.le_refl _
    | succ l ih => unfold cnt; split <;> omega
  refine confS_head (vs := vs) (v := fun i => ((vs[i]?).bind (·.c)).getD undef) hok htl hn' hlen hone h ops.size (Array.replicate ops.size false) a w.drew ⟨⟨rfl, rfl, fun t => ?_⟩, ?_, by simp, Only.refl _ _, fun _ => Below.refl _ _, ?_, ?_, ?_⟩ (hall _)
  · rw [slotv_off (fun k _ _ => getD_replicate_false _ _)]
  · intro i j hi _; rw [getD_replicate_false] at hi; cases hi
  · intro i V _ hi; rw [getD_replicate_false] at hi; cases hi
  · intro i V d hi hd; simp [hi, hd]
  · intro t _; exact getD_replicate_false _ _
end
section
variable {P : Program} {ops : Array Oper} {S : Nat → Prop} {w0 : World} {Q : Exit → Act → World → Prop} {i : Nat} {o : Oper} {rest : List Oper} {Vs : List (YieldS S)} {C C' : Act} {kn : List (Nat × YieldS S × Value)}
theorem postS_eq {d : Value} {C a : Act} {D : Option Tmp} {w1 w : World} (h : a = C.put D d) (hb : Below w1.heap.size w1 w) : PostS (S := S) (.is d) C D w1 .normal a w := ⟨d, h, rfl, hb⟩
theorem stepS_bare {Q : Exit → Act → World → Prop} {w : World} (hq : ¬ LetsOut Q) (hw : Region.wanted o (yielded ops C.tmps) = true) (h : wpList P #[] Q [{ o with guard := none }] C w) : wpList P ops Q [o] C w := step_bare hq hw h
theorem obsS_step {d : Value} (hw : Region.wanted o (yielded ops C.tmps) = true)
    (h1 : ∀ w, Only S w0 w → (∀ e ∈ kn, Region.waitsFor .any ops i e.1 = true → e.2.1.p e.2.2 w) → wpList P #[] (PostS (S := S) (.is d) C o.dst w) [{ o with guard := none }] C w)
    (hC : C.put o.dst d = C') (h2 : ObsS P ops w0 Q (i + 1) rest Vs C' kn) : ObsS P ops w0 Q i (o :: rest) (.is d :: Vs) C kn :=
  ⟨fun w hb hk => step_bare letsOut_postS hw (h1 w hb hk), by subst hC; exact h2⟩
theorem obsS_skip (hw : Region.wanted o (yielded ops C.tmps) = false) (hC : C.put o.dst undef = C') (h2 : ObsS P ops w0 Q (i + 1) rest Vs C' kn) : ObsS P ops w0 Q i (o :: rest) (.is undef :: Vs) C kn :=
  ⟨fun w _ _ => by
    unfold wpList
    rw [if_neg (by rw [hw]; simp)]
    exact postS_eq rfl (Below.refl _ _), by subst hC; exact h2⟩
theorem postS_wrote {g t : Nat} {cs : Array Value} {C a : Act} {D : Option Tmp} {w1 w : World} (h : a = C.put D undef) (hb : Blk w g t cs) (ho : Only S w1 w) : PostS (S := S) (.wrote g t cs) C D w1 .normal a w := ⟨undef, h, hb, ho⟩
/-- The store: of a slot that nobody takes. -/
theorem obsS_wrote {g t : Nat} {cs : Array Value} (hw : Region.wanted o (yielded ops C.tmps) = true)
    (h1 : ∀ w, Below w0.heap.size w0 w → (∀ e ∈ kn, Region.waitsFor .any ops i e.1 = true → e.2.1.p e.2.2 w) → wpList P #[] (PostS (S := S) (.wrote g t cs) C o.dst w) [{ o with guard := none }] C w)
    (hC : ∀ x, C.put o.dst x = C') (h2 : ∀ x, ObsS P ops w0 Q (i + 1) rest Vs C' ((i, .wrote g t cs, x) :: kn)) : ObsS P ops w0 Q i (o :: rest) (.wrote g t cs :: Vs) C kn :=
  ⟨fun w hb hk => step_bare letsOut_postS hw (h1 w hb hk), fun x => by have := h2 x; rw [← hC x] at this; exact this⟩
theorem obsS_end {tail : List Oper} (h : ∀ w, Only S w0 w → (∀ e ∈ kn, e.2.1.p e.2.2 w) → wpList P ops Q tail C w) : ObsS P ops w0 Q i tail [] C kn := by
  cases tail <;> exact h
end
end Go.Proofs.Ytpcfhpffbogjmaa
