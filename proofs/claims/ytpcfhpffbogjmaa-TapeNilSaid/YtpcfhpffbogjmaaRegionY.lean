/- As RegionT and RegionX: one operation of the head stores into blocks of S; the others yield what they yield (new blocks, too); what was told lasts behind the store; nothing of the program is imported. -/
import Derived.Test.YtpcfhpffbogjmaaRegionT
namespace Go.Proofs.Ytpcfhpffbogjmaa
open Go.RowKit

/-- What an operation yields, in a way that lasts where only blocks of S are written. -/
structure YieldY (S : Nat → Prop) where
  c : Option Value
  p : Value → World → Prop
  mono : ∀ x w w', Spare S w w' → p x w → p x w'
  tight : ∀ d, c = some d → ∀ x w, p x w → x = d
section
variable {S : Nat → Prop}
def YieldY.is (d : Value) : YieldY S := ⟨some d, fun x _ => x = d, fun _ _ _ _ h => h, fun d' h x w e => by cases h; exact e⟩
def YieldY.of (p : Value → World → Prop) (m : ∀ x w w', Spare S w w' → p x w → p x w') : YieldY S := ⟨none, p, m, fun _ h => (by cases h)⟩
/-- What is asked of one operation. -/
def PostY (wr : Bool) (V : YieldY S) (r : World → Prop) (C : Act) (d : Option Tmp) (w1 : World) : Exit → Act → World → Prop
  | .normal, a, w => ∃ x, a = C.put d x ∧ V.p x w ∧ (if wr then Spare S w1 w ∧ r w else Below w1.heap.size w1 w)
  | _, _, _ => False
end
section
variable (P : Program) (ops : Array Oper) {S : Nat → Prop} (j : Nat) (q r : World → Prop) (w0 : World) (Q : Exit → Act → World → Prop)
def ObsY : Nat → List Oper → List (YieldY S) → Act → List (Nat × YieldY S × Value) → Prop
  | _, tail, [], C, kn => ∀ w, Spare S w0 w → r w → (∀ e ∈ kn, e.2.1.p e.2.2 w) → wpList P ops Q tail C w
  | _, [], _ :: _, _, _ => False
  | i, o :: rest, V :: Vs, C, kn =>
    (∀ w, Spare S w0 w → (i = j ∨ Region.waitsFor .any ops j i = true → q w) → (∀ e ∈ kn, Region.waitsFor .any ops i e.1 = true → e.2.1.p e.2.2 w) → wpList P ops (PostY (Nat.beq i j) V r C o.dst w) [o] C w) ∧
    match V.c with
    | some d => ObsY (i + 1) rest Vs (C.put o.dst d) kn
    | none => ∀ x, ObsY (i + 1) rest Vs (C.put o.dst x) ((i, V, x) :: kn)
end
section
variable {P : Program} {ops : Array Oper} {S : Nat → Prop}
theorem letsOut_postY {wr : Bool} {V : YieldY S} {r : World → Prop} {C : Act} {d : Option Tmp} {w1 : World} : ¬ LetsOut (PostY wr V r C d w1) := fun ⟨_, _, h⟩ => h
theorem uponY_move {o : Oper} {a C : Act} (hs : a.tmps.size = C.tmps.size) {wr : Bool} {V : YieldY S} {r : World → Prop} {w1 : World} {K : Act → World → Prop} {Q : Exit → Act → World → Prop}
    (hK : ∀ x w, V.p x w → (if wr then Spare S w1 w ∧ r w else Below w1.heap.size w1 w) → K (a.put o.dst x) w) {rr : Result Next} (h : o.upon P C (PostY wr V r C o.dst w1 .normal) (PostY wr V r C o.dst w1) rr) : o.upon P a K Q rr := by
  have any : ∀ x w, PostY wr V r C o.dst w1 .normal (C.put o.dst x) w → K (a.put o.dst x) w := by
    rintro x w ⟨y, hy, hp, hb⟩
    rw [put_same hs hy]
    exact hK _ _ hp hb
  cases rr with
  | ok n w' =>
    cases n <;> simp only [Oper.upon] at h ⊢
    case value x => exact any _ _ h
    case skip => exact any _ _ h
    case defer d =>
      obtain ⟨y, hy, _, _⟩ := h
      have e := congrArg Act.defers hy
      rw [put_defers, put_defers] at e
      exact absurd (congrArg List.length e) (by simp)
    case enter f args =>
      refine h.mono fun e w'' he => ?_
      cases e with
      | returned v => exact any _ _ he
      | panicked c => exact (he : False).elim
      | outgrown => exact absurd he letsOut_postY
    case row row args => exact Rows.mono h fun v w'' he => any _ _ he
  | halt x w' => cases x <;> simp only [Oper.upon] at h ⊢ <;> exact (h : False).elim
end

section
variable {P : Program} {ops : Array Oper} {n jj : Nat} {S : Nat → Prop} {qq rr : World → Prop} {vs : List (YieldY S)} {w0 : World} {a0 : Act} {Q : Exit → Act → World → Prop}
def knownY {S : Nat → Prop} (vs : List (YieldY S)) (v : Nat → Value) : Nat → List (Nat × YieldY S × Value)
  | 0 => []
  | i + 1 => match vs[i]? with
    | some V => if V.c.isSome then knownY vs v i else (i, V, v i) :: knownY vs v i
    | none => knownY vs v i
theorem knownY_mem (v : Nat → Value) : ∀ {i : Nat} {e : Nat × YieldY S × Value}, e ∈ knownY vs v i → e.1 < i ∧ vs[e.1]? = some e.2.1 ∧ e.2.2 = v e.1
  | 0, e, h => by cases h
  | i + 1, e, h => by
    unfold knownY at h
    split at h
    · rename_i V hV
      split at h
      · obtain ⟨h1, h2⟩ := knownY_mem v h; exact ⟨by omega, h2⟩
      · rcases List.mem_cons.1 h with rfl | h
        · exact ⟨by simp, hV, rfl⟩
        · obtain ⟨h1, h2⟩ := knownY_mem v h; exact ⟨by omega, h2⟩
    · obtain ⟨h1, h2⟩ := knownY_mem v h; exact ⟨by omega, h2⟩
def FitsY {S : Nat → Prop} (vs : List (YieldY S)) (v : Nat → Value) : Prop := ∀ i V d, vs[i]? = some V → V.c = some d → v i = d
theorem obsY_at (hO : ObsY P ops jj qq rr w0 Q 0 ops.toList vs a0 []) (hl : vs.length ≤ ops.size) {v : Nat → Value} (hf : FitsY vs v) :
    ∀ i, i ≤ vs.length → ObsY P ops jj qq rr w0 Q i (ops.toList.drop i) (vs.drop i) (pre ops a0 v i) (knownY vs v i)
  | 0, _ => by simp only [List.drop_zero]; exact hO
  | i + 1, hi => by
    have ih := obsY_at hO hl hf i (by omega)
    rw [List.drop_eq_getElem_cons (by simp; omega : i < ops.toList.length), List.drop_eq_getElem_cons (by omega : i < vs.length)] at ih
    have hd : dstOf ops i = (ops.toList[i]'(by simp; omega)).dst := by
      unfold dstOf
      rw [Array.getElem?_eq_getElem (by omega)]
      simp
    have hv : vs[i]? = some (vs[i]'(by omega)) := List.getElem?_eq_getElem (by omega)
    have h2 := ih.2
    rw [pre, hd]
    unfold knownY
    rw [hv]
    simp only
    cases hc : (vs[i]'(by omega)).c with
    | some d =>
      rw [hc] at h2
      rw [hf i _ d hv hc]
      simpa [hc] using h2
    | none =>
      rw [hc] at h2
      simpa [hc] using h2 (v i)

structure HeadY (ops : Array Oper) (n jj : Nat) {S : Nat → Prop} (qq rr : World → Prop) (vs : List (YieldY S)) (w0 : World) (a0 : Act) (v : Nat → Value) (listed : Array Bool) (a : Act) (w : World) : Prop where
  frame : Fr ops a0 a v (fun k => listed.getD k false) n
  closed : Closed ops listed
  size : listed.size = ops.size
  spare : Spare S w0 w
  ahead : listed.getD jj false = false → qq w
  stored : listed.getD jj false = true → rr w
  facts : ∀ i V, vs[i]? = some V → listed.getD i false = true → V.p (v i) w
  fits : FitsY vs v
  tail : ∀ t, n ≤ t → listed.getD t false = false

theorem headY_pre {v : Nat → Value} {listed : Array Bool} {a : Act} {w : World} (H : HeadY ops n jj qq rr vs w0 a0 v listed a w) (hall : ∀ i, i < n → listed.getD i false = true) : a = pre ops a0 v n := by
  refine act_ext (by rw [H.frame.defers, pre_defers]) fun t => ?_
  rw [H.frame.slot, pre_slot]
  exact slotv_congr fun k hk _ => ⟨by rw [hall k hk], fun _ => rfl⟩

theorem confY_head (hok : regionOk ops n = true) (htl : tailOk ops n = true) (hn : n ≤ ops.size) (hlen : vs.length = n) (hj : jj < n) (hqs : ∀ w w', Below w.heap.size w w' → qq w → qq w') (hrs : ∀ w w', Below w.heap.size w w' → rr w → rr w') (hO : ObsY P ops jj qq rr w0 Q 0 ops.toList vs a0 []) :
    ∀ (fuel : Nat) (listed : Array Bool) (a : Act) (w : World) (v : Nat → Value), HeadY ops n jj qq rr vs w0 a0 v listed a w → cnt listed ops.size ≤ fuel → wpAny P .any ops Q fuel listed a w := by
  intro fuel
  induction fuel with
  | zero =>
    intro listed a w v H hc
    have hall : ∀ i, i < ops.size → listed.getD i false = true := fun i hi => by
      cases h : listed.getD i false with
      | true => rfl
      | false =>
        have := cnt_pos (listed := listed) (i := i) (by rw [getD_iff (by rw [H.size]; exact hi)]; exact h) hi
        omega
    have hnn : n = ops.size := by
      rcases Nat.lt_or_ge n ops.size with h | h
      · have h1 := H.tail n (Nat.le_refl _); rw [hall n h] at h1; cases h1
      · omega
    have hF := obsY_at hO (by omega) H.fits n (by omega)
    rw [← hlen, List.drop_length, hlen] at hF
    unfold ObsY at hF
    have hfin := hF w H.spare (H.stored (hall jj (by omega))) (fun e he => by
      obtain ⟨h1, h2, h3⟩ := knownY_mem v he
      rw [h3]
      exact H.facts _ _ h2 (hall _ (by omega)))
    rw [← headY_pre H (fun i hi => hall i (by omega))] at hfin
    exact conf_tail hok htl 0 n (by omega) (Nat.le_refl _) listed a w 0 H.size (fun i hi => hall i (by omega)) (fun i hi => H.tail i hi) hc hfin
  | succ fuel ih =>
    intro listed a w v H hc
    by_cases hall : ∀ i, i < n → listed.getD i false = true
    · have hF := obsY_at hO (by omega) H.fits n (by omega)
      rw [← hlen, List.drop_length, hlen] at hF
      unfold ObsY at hF
      have hfin := hF w H.spare (H.stored (hall jj hj)) (fun e he => by
        obtain ⟨h1, h2, h3⟩ := knownY_mem v he
        rw [h3]
        exact H.facts _ _ h2 (hall _ h1))
      rw [← headY_pre H hall] at hfin
      exact conf_tail hok htl (ops.size - n) n (by omega) (Nat.le_refl _) listed a w _ H.size hall (fun i hi => H.tail i hi) hc hfin
    · -- the least one that is not listed may come up
      have hex : ∃ i, i < n ∧ listed.getD i false = false ∧ ∀ j, j < i → listed.getD j false = true := by
        have : ∃ i, i < n ∧ listed.getD i false = false := Classical.byContradiction fun hno => hall fun i hi => by
          cases h : listed.getD i false with
          | true => rfl
          | false => exact absurd ⟨i, hi, h⟩ hno
        obtain ⟨i, hi⟩ := this
        induction i using Nat.strongRecOn with
        | _ i ihn =>
          by_cases hj : ∃ j, j < i ∧ listed.getD j false = false
          · obtain ⟨j, hji, hjf⟩ := hj
            exact ihn j hji ⟨by omega, hjf⟩
          · refine ⟨i, hi.1, hi.2, fun j hji => ?_⟩
            cases h : listed.getD j false with
            | true => rfl
            | false => exact absurd ⟨j, hji, h⟩ hj
      obtain ⟨l, hln, hlf, hlb⟩ := hex
      have hls : l < ops.size := by omega
      have hlr : l ∈ Region.ready .any ops listed := mem_ready.2 ⟨by rw [getD_iff (by rw [H.size]; exact hls)]; exact hlf, ops[l], Array.getElem?_eq_getElem hls, fun e he hb => hlb e.on (ok_back hok (waits_iff.2 ⟨_, Array.getElem?_eq_getElem hls, e, he, hb, rfl⟩))⟩
      refine ⟨fun h => (by rw [h] at hlr; cases hlr), fun i hi => ?_⟩
      obtain ⟨hf, o, ho, hdeps⟩ := mem_ready.1 hi
      have his := lt_of_at ho
      have hw : ∀ j, Region.waitsFor .any ops i j = true → listed.getD j false = true := fun j hj => by
        obtain ⟨o', ho', e, he, hb, rfl⟩ := waits_iff.1 hj
        have : o' = o := Option.some.inj (ho'.symm.trans ho)
        subst this
        exact hdeps e he hb
      have hin : i < n := by
        rcases Nat.lt_or_ge i n with h | h
        · exact h
        · have := ok_tail htl H.closed h his (i := l) (by omega) hw
          rw [hlf] at this; cases this
      have hff : listed.getD i false = false := by rw [← getD_iff (by rw [H.size]; exact his)]; exact hf
      have hF := obsY_at hO (by omega) H.fits i (by omega)
      have hvi : vs[i]? = some (vs[i]'(by omega)) := List.getElem?_eq_getElem (by omega)
      generalize hV : vs[i]'(by omega) = V at hvi
      rw [List.drop_eq_getElem_cons (by simpa using his), List.drop_eq_getElem_cons (by omega : i < vs.length), hV] at hF
      have hoe : ops.toList[i]'(by simpa using his) = o := by
        have := (Array.getElem?_eq_some_iff.1 ho).2
        simpa using this
      rw [hoe] at hF
      have hstep := hF.1 w H.spare (fun e => H.ahead (by
        rcases e with e | e
        · rw [← e]; exact hff
        · cases hjl : listed.getD jj false with
          | false => rfl
          | true => have := H.closed jj i hjl e; rw [hff] at this; cases this)) (fun e he hwt => by
        obtain ⟨h1, h2, h3⟩ := knownY_mem v he
        rw [h3]
        exact H.facts _ _ h2 (hw _ hwt))
      obtain ⟨hsel, hlook⟩ := ok_look hok hin ho
      have hslots : ∀ t ∈ o.looksAt ops, a.tmps[t]? = (pre ops a0 v i).tmps[t]? := fun t ht => by
        rw [H.frame.slot, pre_slot]
        have e1 : slotv ops a0 v (fun _ => true) i t = slotv ops a0 v (fun k => decide (k < i)) n t := by
          rw [slotv_beyond (m := fun k => decide (k < i)) (i := i) (fun k hk => by simp; omega) (by omega)]
          exact slotv_congr fun k hk _ => ⟨by simp [hk], fun _ => rfl⟩
        rw [e1]
        refine slotv_congr fun k hk hkd => ⟨?_, fun _ => rfl⟩
        rcases hlook t ht k hk hkd with h | h
        · rw [hw k h]
          have := ok_back hok h
          simp [this]
        · have hik := ok_back hok h
          cases hkl : listed.getD k false with
          | true => have := H.closed k i hkl h; rw [hff] at this; cases this
          | false => simp; omega
      have heval : ∀ x ∈ o.op.operands, a.eval x = (pre ops a0 v i).eval x := fun x hx => by
        cases x with
        | tmp t =>
          have ht : t ∈ o.looksAt ops := List.mem_append_left _ (List.mem_filterMap.2 ⟨.tmp t, by simpa using hx, rfl⟩)
          simp only [Act.eval, Array.getD_eq_getD_getElem?, hslots t ht]
        | _ => rfl
      have hexec : execOp a.eval o = execOp (pre ops a0 v i).eval o := execOp_congr o hsel heval
      have hwant := wanted_congr (ops := ops) hslots
      have hsize : a.tmps.size = (pre ops a0 v i).tmps.size := by rw [H.frame.size, pre_size]
      have hdst : dstOf ops i = o.dst := by unfold dstOf; rw [ho]; rfl
      have hK : ∀ x w', V.p x w' → (if Nat.beq i jj then Spare S w w' ∧ rr w' else Below w.heap.size w w') → wpAny P .any ops Q fuel (listed.setIfInBounds i true) (a.put o.dst x) w' := fun x w' hp hb => by
        refine ih _ _ _ (fun k => if k = i then x else v k) ?_ (by have := cnt_set hf his; omega)
        have hil : i < listed.size := by rw [H.size]; exact his
        have hne : i ≠ jj → Nat.beq i jj = false := fun hij => by
          cases hq : Nat.beq i jj with
          | false => rfl
          | true => exact absurd (Nat.eq_of_beq_eq_true hq) hij
        have hsp : Spare S w w' := by
          split at hb
          · exact hb.1
          · exact .ofBelow hb
        refine ⟨⟨by rw [put_defers, H.frame.defers], by rw [put_size, H.frame.size], fun t => ?_⟩, ?_, by simp [H.size], H.spare.trans hsp, ?_, ?_, ?_, ?_, fun t ht => by rw [getD_set_ne false (by omega)]; exact H.tail t ht⟩
        · rw [put_slot, slotv_set hok (m := fun k => listed.getD k false) hin hff (by simp [hil]) (fun k hk => getD_set_ne false (Ne.symm hk)), hdst, H.frame.size, H.frame.slot]
        · intro j k hj hjk
          by_cases hji : i = j
          · subst hji; exact getD_set_true (hw k hjk)
          · rw [getD_set_ne false hji] at hj; exact getD_set_true (H.closed j k hj hjk)
        · intro hjl
          by_cases hij : i = jj
          · rw [hij, show (listed.setIfInBounds jj true).getD jj false = true by rw [← hij]; simp [hil]] at hjl; cases hjl
          · rw [getD_set_ne false hij] at hjl
            rw [hne hij] at hb
            exact hqs _ _ hb (H.ahead hjl)
        · intro hjl
          by_cases hij : i = jj
          · subst hij
            rw [show Nat.beq i i = true from Nat.beq_refl i] at hb
            exact hb.2
          · rw [getD_set_ne false hij] at hjl
            rw [hne hij] at hb
            exact hrs _ _ hb (H.stored hjl)
        · intro j V' hj hjl
          by_cases hji : j = i
          · subst hji
            rw [hvi] at hj
            cases hj
            rw [if_pos rfl]; exact hp
          · rw [getD_set_ne false (Ne.symm hji)] at hjl
            rw [if_neg hji]
            exact V'.mono _ _ _ hsp (H.facts j V' hj hjl)
        · intro j V' d hj hcd
          by_cases hji : j = i
          · subst hji
            rw [hvi] at hj
            cases hj
            show (if j = j then x else v j) = d
            rw [if_pos rfl]; exact V.tight d hcd x w' hp
          · show (if j = i then x else v j) = d
            rw [if_neg hji]; exact H.fits j V' d hj hcd
      unfold wpOp
      rw [ho]
      simp only
      unfold wpList at hstep
      rw [hwant]
      split
      · rename_i hwt
        rw [if_pos hwt] at hstep
        refine .inl ?_
        rcases hstep with hs | ⟨_, hs⟩
        · unfold Oper.wp at hs ⊢
          rw [hexec]
          exact uponY_move hsize hK hs
        · exact absurd hs letsOut_postY
      · rename_i hwt
        rw [if_neg hwt] at hstep
        obtain ⟨y, hy, hp, hb⟩ := hstep
        rw [put_same hsize hy]
        exact hK _ _ hp hb

/-- THE LAW: as wp_region_late; each operation yields what it yields. -/
theorem wp_region_stored {id : Nat} {a : Act} {w : World} (n jj : Nat) (S : Nat → Prop) (q r : World → Prop) (vs : List (YieldY S)) (hm : P.follows .mixedOrders = true) (hok : regionOk ops n = true) (htl : tailOk ops n = true)
    (hn : decide (n ≤ ops.size) = true) (hj : decide (jj < n) = true) (hlen : vs.length = n) (hq0 : q w) (hq : ∀ w w', Below w.heap.size w w' → q w → q w') (hr : ∀ w w', Below w.heap.size w w' → r w → r w') (h : ObsY P ops jj q r w.drew Q 0 ops.toList vs a []) : (Code.region id ops true).wp P Q a w := by
  refine wp_region_any hm ?_
  have hn' : n ≤ ops.size := of_decide_eq_true hn
  have hall : ∀ l, cnt (Array.replicate ops.size false) l ≤ l := by
    intro l
    induction l with
    | zero => exact Nat.le_refl _
    | succ l ih => unfold cnt; split <;> omega
  refine confY_head (vs := vs) (v := fun i => ((vs[i]?).bind (·.c)).getD undef) hok htl hn' hlen (of_decide_eq_true hj) hq hr h ops.size (Array.replicate ops.size false) a w.drew ⟨⟨rfl, rfl, fun t => ?_⟩, ?_, by simp, .refl _ _, fun _ => hq _ _ (Below.refl _ _).drew hq0, ?_, ?_, ?_, ?_⟩ (hall _)
  · rw [slotv_off (fun k _ _ => getD_replicate_false _ _)]
  · intro i j hi _; rw [getD_replicate_false] at hi; cases hi
  · intro hi; rw [getD_replicate_false] at hi; cases hi
  · intro i V _ hi; rw [getD_replicate_false] at hi; cases hi
  · intro i V d hi hd; simp [hi, hd]
  · intro t _; exact getD_replicate_false _ _
end
section
variable {P : Program} {ops : Array Oper} {S : Nat → Prop} {jj : Nat} {q r : World → Prop} {w0 : World} {Q : Exit → Act → World → Prop} {i : Nat} {o : Oper} {rest : List Oper} {Vs : List (YieldY S)} {C : Act} {kn : List (Nat × YieldY S × Value)}
theorem postY_is {d : Value} {D : Option Tmp} {w1 w : World} (hb : Below w1.heap.size w1 w) : PostY (S := S) false (.is d) r C D w1 .normal (C.put D d) w := ⟨d, rfl, rfl, hb⟩
theorem postY_of {p : Value → World → Prop} {m : ∀ x w w', Spare S w w' → p x w → p x w'} {x : Value} {D : Option Tmp} {w1 w : World} (hp : p x w) (hb : Below w1.heap.size w1 w) : PostY (S := S) false (.of p m) r C D w1 .normal (C.put D x) w := ⟨x, rfl, hp, hb⟩
theorem postY_stored {d : Value} {D : Option Tmp} {w1 w : World} (hb : Spare S w1 w) (hr : r w) : PostY (S := S) true (.is d) r C D w1 .normal (C.put D d) w := ⟨d, rfl, rfl, hb, hr⟩
theorem obsY_is {d : Value} (hij : Nat.beq i jj = false) (h1 : ∀ w, Spare S w0 w → (∀ e ∈ kn, Region.waitsFor .any ops i e.1 = true → e.2.1.p e.2.2 w) → wpList P ops (PostY (S := S) false (.is d) r C o.dst w) [o] C w)
    (h2 : ObsY P ops jj q r w0 Q (i + 1) rest Vs (C.put o.dst d) kn) : ObsY P ops jj q r w0 Q i (o :: rest) (.is d :: Vs) C kn := ⟨fun w hs _ hk => by rw [hij]; exact h1 w hs hk, h2⟩
theorem obsY_read {d : Value} (hij : Nat.beq i jj = false) (hwt : Region.waitsFor .any ops jj i = true) (h1 : ∀ w, Spare S w0 w → q w → (∀ e ∈ kn, Region.waitsFor .any ops i e.1 = true → e.2.1.p e.2.2 w) → wpList P ops (PostY (S := S) false (.is d) r C o.dst w) [o] C w)
    (h2 : ObsY P ops jj q r w0 Q (i + 1) rest Vs (C.put o.dst d) kn) : ObsY P ops jj q r w0 Q i (o :: rest) (.is d :: Vs) C kn := ⟨fun w hs hq hk => by rw [hij]; exact h1 w hs (hq (.inr hwt)) hk, h2⟩
theorem obsY_of {p : Value → World → Prop} {m : ∀ x w w', Spare S w w' → p x w → p x w'} (hij : Nat.beq i jj = false) (h1 : ∀ w, Spare S w0 w → (∀ e ∈ kn, Region.waitsFor .any ops i e.1 = true → e.2.1.p e.2.2 w) → wpList P ops (PostY (S := S) false (.of p m) r C o.dst w) [o] C w)
    (h2 : ∀ x, ObsY P ops jj q r w0 Q (i + 1) rest Vs (C.put o.dst x) ((i, .of p m, x) :: kn)) : ObsY P ops jj q r w0 Q i (o :: rest) (.of p m :: Vs) C kn := ⟨fun w hs _ hk => by rw [hij]; exact h1 w hs hk, h2⟩
theorem obsY_store {d : Value} (h1 : ∀ w, Spare S w0 w → q w → (∀ e ∈ kn, Region.waitsFor .any ops jj e.1 = true → e.2.1.p e.2.2 w) → wpList P ops (PostY (S := S) true (.is d) r C o.dst w) [o] C w)
    (h2 : ObsY P ops jj q r w0 Q (jj + 1) rest Vs (C.put o.dst d) kn) : ObsY P ops jj q r w0 Q jj (o :: rest) (.is d :: Vs) C kn := ⟨fun w hs hq hk => by rw [show Nat.beq jj jj = true from Nat.beq_refl jj]; exact h1 w hs (hq (.inl rfl)) hk, h2⟩
theorem obsY_end {tail : List Oper} (h : ∀ w, Spare S w0 w → r w → (∀ e ∈ kn, e.2.1.p e.2.2 w) → wpList P ops Q tail C w) : ObsY P ops jj q r w0 Q i tail [] C kn := by
  cases tail <;> exact h
end
end Go.Proofs.Ytpcfhpffbogjmaa
