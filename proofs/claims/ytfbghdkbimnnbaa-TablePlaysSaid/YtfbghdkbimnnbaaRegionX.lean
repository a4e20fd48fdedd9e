/- As Region; one operation of the head may write what the region itself has made: what was told of that is told no more behind it; nothing of the program is imported. -/
import Derived.Test.YtfbghdkbimnnbaaApp
namespace Go.Proofs.Ytfbghdkbimnnbaa
open Go.RowKit

/-- What an operation yields; whether what is told of it lasts behind a writing of new blocks. -/
structure YieldX (B : Nat) where
  c : Option Value
  last : Bool
  p : Value → World → Prop
  mono : ∀ x w w', Below w.heap.size w w' → p x w → p x w'
  monoX : last = true → ∀ x w w', Below B w w' → p x w → p x w'
  tight : ∀ d, c = some d → ∀ x w, p x w → x = d
section
variable {B : Nat}
def YieldX.is (d : Value) : YieldX B := ⟨some d, true, fun x _ => x = d, fun _ _ _ _ h => h, fun _ _ _ _ _ h => h, fun d' h x w e => by cases h; exact e⟩
def YieldX.slice (B0 : Nat) (n : Nat) (t : TypeId) (cs : Array Value) : YieldX B :=
  ⟨none, false, fun x w => ∃ g, B0 ≤ g ∧ x = .slice (some ⟨g, 0, none⟩) n n ∧ Blk w g t cs, fun _ _ _ hb ⟨g, h1, h2, h3⟩ => ⟨g, h1, h2, h3.keep hb h3.lt⟩, fun h => (by cases h), fun _ h => (by cases h)⟩
def YieldX.own (B0 : Nat) (e : TypeId) (size n : Nat) (xs : List Value) : YieldX B :=
  ⟨none, false, fun x w => w.ownsRow B0 e size x n xs, fun _ _ _ hb h => own_below h hb, fun h => (by cases h), fun _ h => (by cases h)⟩
/-- What an operation leaves alone. -/
def relX (wr : Bool) (B : Nat) (w : World) : Nat := if wr then B else w.heap.size
/-- What is asked of one operation. -/
def PostX (wr : Bool) (V : YieldX B) (C : Act) (d : Option Tmp) (w1 : World) : Exit → Act → World → Prop
  | .normal, a, w => ∃ x, a = C.put d x ∧ V.p x w ∧ Below (relX wr B w1) w1 w
  | _, _, _ => False
end
section
variable (P : Program) (ops : Array Oper) {B : Nat} (j : Nat) (w0 : World) (Q : Exit → Act → World → Prop)
/-- May what an operation told be used by operation i? -/
def usedX (V : YieldX B) (i : Nat) : Bool := V.last || Region.waitsFor .any ops j i || Nat.beq i j
def ObsX : Nat → List Oper → List (YieldX B) → Act → List (Nat × YieldX B × Value) → Prop
  | _, tail, [], C, kn => ∀ w, Below B w0 w → (∀ e ∈ kn, (e.2.1.last = true ∨ e.1 = j) → e.2.1.p e.2.2 w) → wpList P ops Q tail C w
  | _, [], _ :: _, _, _ => False
  | i, o :: rest, V :: Vs, C, kn =>
    (∀ w, Below B w0 w → (∀ e ∈ kn, Region.waitsFor .any ops i e.1 = true → usedX ops j e.2.1 i = true → e.2.1.p e.2.2 w) → wpList P ops (PostX (Nat.beq i j) V C o.dst w) [o] C w) ∧
    match V.c with
    | some d => ObsX (i + 1) rest Vs (C.put o.dst d) kn
    | none => ∀ x, ObsX (i + 1) rest Vs (C.put o.dst x) ((i, V, x) :: kn)
end
section
variable {P : Program} {ops : Array Oper} {B : Nat}
theorem letsOut_postX {wr : Bool} {V : YieldX B} {C : Act} {d : Option Tmp} {w1 : World} : ¬ LetsOut (PostX wr V C d w1) := fun ⟨_, _, h⟩ => h
theorem uponX_move {o : Oper} {a C : Act} (hs : a.tmps.size = C.tmps.size) {wr : Bool} {V : YieldX B} {w1 : World} {K : Act → World → Prop} {Q : Exit → Act → World → Prop}
    (hK : ∀ x w, V.p x w → Below (relX wr B w1) w1 w → K (a.put o.dst x) w) {r : Result Next} (h : o.upon P C (PostX wr V C o.dst w1 .normal) (PostX wr V C o.dst w1) r) : o.upon P a K Q r := by
  have any : ∀ x w, PostX wr V C o.dst w1 .normal (C.put o.dst x) w → K (a.put o.dst x) w := by
    rintro x w ⟨y, hy, hp, hb⟩
    rw [put_same hs hy]
    exact hK _ _ hp hb
  cases r with
  | ok n w' =>
    cases n <;> simp only [Oper.upon] at h ⊢
    case value x => exact any _ _ h
    case skip => exact any _ _ h
    case defer d =>
      obtain ⟨y, hy, _, _⟩ := h
      have e := congrArg Act.defers hy
      rw [put_defers, put_defers] at e
      exact absurd (congrArg List.length e) (by simp)
    case enter f args =>
      refine h.mono fun e w'' he => ?_
      cases e with
      | returned v => exact any _ _ he
      | panicked c => exact (he : False).elim
      | outgrown => exact absurd he letsOut_postX
    case row row args => exact Rows.mono h fun v w'' he => any _ _ he
  | halt x w' => cases x <;> simp only [Oper.upon] at h ⊢ <;> exact (h : False).elim
end

section
variable {P : Program} {ops : Array Oper} {n jj : Nat} {B : Nat} {vs : List (YieldX B)} {w0 : World} {a0 : Act} {Q : Exit → Act → World → Prop}
def knownX {B : Nat} (vs : List (YieldX B)) (v : Nat → Value) : Nat → List (Nat × YieldX B × Value)
  | 0 => []
  | i + 1 => match vs[i]? with
    | some V => if V.c.isSome then knownX vs v i else (i, V, v i) :: knownX vs v i
    | none => knownX vs v i
theorem knownX_mem (v : Nat → Value) : ∀ {i : Nat} {e : Nat × YieldX B × Value}, e ∈ knownX vs v i → e.1 < i ∧ vs[e.1]? = some e.2.1 ∧ e.2.2 = v e.1
  | 0, e, h => by cases h
  | i + 1, e, h => by
    unfold knownX at h
    split at h
    · rename_i V hV
      split at h
      · obtain ⟨h1, h2⟩ := knownX_mem v h; exact ⟨by omega, h2⟩
      · rcases List.mem_cons.1 h with rfl | h
        · exact ⟨by simp, hV, rfl⟩
        · obtain ⟨h1, h2⟩ := knownX_mem v h; exact ⟨by omega, h2⟩
    · obtain ⟨h1, h2⟩ := knownX_mem v h; exact ⟨by omega, h2⟩
def FitsX {B : Nat} (vs : List (YieldX B)) (v : Nat → Value) : Prop := ∀ i V d, vs[i]? = some V → V.c = some d → v i = d
theorem obsX_at (hO : ObsX P ops jj w0 Q 0 ops.toList vs a0 []) (hl : vs.length ≤ ops.size) {v : Nat → Value} (hf : FitsX vs v) :
    ∀ i, i ≤ vs.length → ObsX P ops jj w0 Q i (ops.toList.drop i) (vs.drop i) (pre ops a0 v i) (knownX vs v i)
  | 0, _ => by simp only [List.drop_zero]; exact hO
  | i + 1, hi => by
    have ih := obsX_at hO hl hf i (by omega)
    rw [List.drop_eq_getElem_cons (by simp; omega : i < ops.toList.length), List.drop_eq_getElem_cons (by omega : i < vs.length)] at ih
    have hd : dstOf ops i = (ops.toList[i]'(by simp; omega)).dst := by
      unfold dstOf
      rw [Array.getElem?_eq_getElem (by omega)]
      simp
    have hv : vs[i]? = some (vs[i]'(by omega)) := List.getElem?_eq_getElem (by omega)
    have h2 := ih.2
    rw [pre, hd]
    unfold knownX
    rw [hv]
    simp only
    cases hc : (vs[i]'(by omega)).c with
    | some d =>
      rw [hc] at h2
      rw [hf i _ d hv hc]
      simpa [hc] using h2
    | none =>
      rw [hc] at h2
      simpa [hc] using h2 (v i)

structure HeadX (ops : Array Oper) (n jj : Nat) {B : Nat} (vs : List (YieldX B)) (w0 : World) (a0 : Act) (v : Nat → Value) (listed : Array Bool) (a : Act) (w : World) : Prop where
  frame : Fr ops a0 a v (fun k => listed.getD k false) n
  closed : Closed ops listed
  size : listed.size = ops.size
  below : Below B w0 w
  big : B ≤ w.heap.size
  facts : ∀ i V, vs[i]? = some V → listed.getD i false = true → (V.last = true ∨ listed.getD jj false = false ∨ i = jj) → V.p (v i) w
  fits : FitsX vs v
  tail : ∀ t, n ≤ t → listed.getD t false = false

theorem headX_pre {v : Nat → Value} {listed : Array Bool} {a : Act} {w : World} (H : HeadX ops n jj vs w0 a0 v listed a w) (hall : ∀ i, i < n → listed.getD i false = true) : a = pre ops a0 v n := by
  refine act_ext (by rw [H.frame.defers, pre_defers]) fun t => ?_
  rw [H.frame.slot, pre_slot]
  exact slotv_congr fun k hk _ => ⟨by rw [hall k hk], fun _ => rfl⟩

theorem confX_head (hok : regionOk ops n = true) (htl : tailOk ops n = true) (hn : n ≤ ops.size) (hlen : vs.length = n) (hO : ObsX P ops jj w0 Q 0 ops.toList vs a0 []) :
    ∀ (fuel : Nat) (listed : Array Bool) (a : Act) (w : World) (v : Nat → Value), HeadX ops n jj vs w0 a0 v listed a w → cnt listed ops.size ≤ fuel → wpAny P .any ops Q fuel listed a w := by
  intro fuel
  induction fuel with
  | zero =>
    intro listed a w v H hc
    have hall : ∀ i, i < ops.size → listed.getD i false = true := fun i hi => by
      cases h : listed.getD i false with
      | true => rfl
      | false =>
        have := cnt_pos (listed := listed) (i := i) (by rw [getD_iff (by rw [H.size]; exact hi)]; exact h) hi
        omega
    have hnn : n = ops.size := by
      rcases Nat.lt_or_ge n ops.size with h | h
      · have h1 := H.tail n (Nat.le_refl _); rw [hall n h] at h1; cases h1
      · omega
    have hF := obsX_at hO (by omega) H.fits n (by omega)
    rw [← hlen, List.drop_length, hlen] at hF
    unfold ObsX at hF
    have hfin := hF w H.below (fun e he hlast => by
      obtain ⟨h1, h2, h3⟩ := knownX_mem v he
      rw [h3]
      exact H.facts _ _ h2 (hall _ (by omega)) (hlast.imp id .inr))
    rw [← headX_pre H (fun i hi => hall i (by omega))] at hfin
    exact conf_tail hok htl 0 n (by omega) (Nat.le_refl _) listed a w 0 H.size (fun i hi => hall i (by omega)) (fun i hi => H.tail i hi) hc hfin
  | succ fuel ih =>
    intro listed a w v H hc
    by_cases hall : ∀ i, i < n → listed.getD i false = true
    · have hF := obsX_at hO (by omega) H.fits n (by omega)
      rw [← hlen, List.drop_length, hlen] at hF
      unfold ObsX at hF
      have hfin := hF w H.below (fun e he hlast => by
        obtain ⟨h1, h2, h3⟩ := knownX_mem v he
        rw [h3]
        exact H.facts _ _ h2 (hall _ h1) (hlast.imp id .inr))
      rw [← headX_pre H hall] at hfin
      exact conf_tail hok htl (ops.size - n) n (by omega) (Nat.le_refl _) listed a w _ H.size hall (fun i hi => H.tail i hi) hc hfin
    · -- the least one that is not listed may come up
      have hex : ∃ i, i < n ∧ listed.getD i false = false ∧ ∀ j, j < i → listed.getD j false = true := by
        have : ∃ i, i < n ∧ listed.getD i false = false := Classical.byContradiction fun hno => hall fun i hi => by
          cases h : listed.getD i false with
          | true => rfl
          | false => exact absurd ⟨i, hi, h⟩ hno
        obtain ⟨i, hi⟩ := this
        induction i using Nat.strongRecOn with
        | _ i ihn =>
          by_cases hj : ∃ j, j < i ∧ listed.getD j false = false
          · obtain ⟨j, hji, hjf⟩ := hj
            exact ihn j hji ⟨by omega, hjf⟩
          · refine ⟨i, hi.1, hi.2, fun j hji => ?_⟩
            cases h : listed.getD j false with
            | true => rfl
            | false => exact absurd ⟨j, hji, h⟩ hj
      obtain ⟨l, hln, hlf, hlb⟩ := hex
      have hls : l < ops.size := by omega
      have hlr : l ∈ Region.ready .any ops listed := mem_ready.2 ⟨by rw [getD_iff (by rw [H.size]; exact hls)]; exact hlf, ops[l], Array.getElem?_eq_getElem hls, fun e he hb => hlb e.on (ok_back hok (waits_iff.2 ⟨_, Array.getElem?_eq_getElem hls, e, he, hb, rfl⟩))⟩
      refine ⟨fun h => (by rw [h] at hlr; cases hlr), fun i hi => ?_⟩
      obtain ⟨hf, o, ho, hdeps⟩ := mem_ready.1 hi
      have his := lt_of_at ho
      have hw : ∀ j, Region.waitsFor .any ops i j = true → listed.getD j false = true := fun j hj => by
        obtain ⟨o', ho', e, he, hb, rfl⟩ := waits_iff.1 hj
        have : o' = o := Option.some.inj (ho'.symm.trans ho)
        subst this
        exact hdeps e he hb
      have hin : i < n := by
        rcases Nat.lt_or_ge i n with h | h
        · exact h
        · have := ok_tail htl H.closed h his (i := l) (by omega) hw
          rw [hlf] at this; cases this
      have hff : listed.getD i false = false := by rw [← getD_iff (by rw [H.size]; exact his)]; exact hf
      have hF := obsX_at hO (by omega) H.fits i (by omega)
      have hvi : vs[i]? = some (vs[i]'(by omega)) := List.getElem?_eq_getElem (by omega)
      generalize hV : vs[i]'(by omega) = V at hvi
      rw [List.drop_eq_getElem_cons (by simpa using his), List.drop_eq_getElem_cons (by omega : i < vs.length), hV] at hF
      have hoe : ops.toList[i]'(by simpa using his) = o := by
        have := (Array.getElem?_eq_some_iff.1 ho).2
        simpa using this
      rw [hoe] at hF
      have hstep := hF.1 w H.below (fun e he hwt huse => by
        obtain ⟨h1, h2, h3⟩ := knownX_mem v he
        rw [h3]
        refine H.facts _ _ h2 (hw _ hwt) ?_
        unfold usedX at huse
        simp only [Bool.or_eq_true] at huse
        rcases huse with (hl | hjw) | hij
        · exact .inl hl
        · refine .inr (.inl ?_)
          cases hjl : listed.getD jj false with
          | false => rfl
          | true => have := H.closed jj i hjl hjw; rw [hff] at this; cases this
        · have := Nat.eq_of_beq_eq_true hij
          subst this
          exact .inr (.inl hff))
      obtain ⟨hsel, hlook⟩ := ok_look hok hin ho
      have hslots : ∀ t ∈ o.looksAt ops, a.tmps[t]? = (pre ops a0 v i).tmps[t]? := fun t ht => by
        rw [H.frame.slot, pre_slot]
        have e1 : slotv ops a0 v (fun _ => true) i t = slotv ops a0 v (fun k => decide (k < i)) n t := by
          rw [slotv_beyond (m := fun k => decide (k < i)) (i := i) (fun k hk => by simp; omega) (by omega)]
          exact slotv_congr fun k hk _ => ⟨by simp [hk], fun _ => rfl⟩
        rw [e1]
        refine slotv_congr fun k hk hkd => ⟨?_, fun _ => rfl⟩
        rcases hlook t ht k hk hkd with h | h
        · rw [hw k h]
          have := ok_back hok h
          simp [this]
        · have hik := ok_back hok h
          cases hkl : listed.getD k false with
          | true => have := H.closed k i hkl h; rw [hff] at this; cases this
          | false => simp; omega
      have heval : ∀ x ∈ o.op.operands, a.eval x = (pre ops a0 v i).eval x := fun x hx => by
        cases x with
        | tmp t =>
          have ht : t ∈ o.looksAt ops := List.mem_append_left _ (List.mem_filterMap.2 ⟨.tmp t, by simpa using hx, rfl⟩)
          simp only [Act.eval, Array.getD_eq_getD_getElem?, hslots t ht]
        | _ => rfl
      have hexec : execOp a.eval o = execOp (pre ops a0 v i).eval o := execOp_congr o hsel heval
      have hwant := wanted_congr (ops := ops) hslots
      have hsize : a.tmps.size = (pre ops a0 v i).tmps.size := by rw [H.frame.size, pre_size]
      have hdst : dstOf ops i = o.dst := by unfold dstOf; rw [ho]; rfl
      have hK : ∀ x w', V.p x w' → Below (relX (Nat.beq i jj) B w) w w' → wpAny P .any ops Q fuel (listed.setIfInBounds i true) (a.put o.dst x) w' := fun x w' hp hb => by
        refine ih _ _ _ (fun k => if k = i then x else v k) ?_ (by have := cnt_set hf his; omega)
        have hil : i < listed.size := by rw [H.size]; exact his
        have hbB : Below B w w' := by
          unfold relX at hb
          split at hb
          · exact hb
          · exact hb.mono H.big
        refine ⟨⟨by rw [put_defers, H.frame.defers], by rw [put_size, H.frame.size], fun t => ?_⟩, ?_, by simp [H.size], H.below.trans hbB, Nat.le_trans H.big hbB.size, ?_, ?_, fun t ht => by rw [getD_set_ne false (by omega)]; exact H.tail t ht⟩
        · rw [put_slot, slotv_set hok (m := fun k => listed.getD k false) hin hff (by simp [hil]) (fun k hk => getD_set_ne false (Ne.symm hk)), hdst, H.frame.size, H.frame.slot]
        · intro j k hj hjk
          by_cases hji : i = j
          · subst hji; exact getD_set_true (hw k hjk)
          · rw [getD_set_ne false hji] at hj; exact getD_set_true (H.closed j k hj hjk)
        · intro j V' hj hjl hor
          by_cases hji : j = i
          · subst hji
            rw [hvi] at hj
            cases hj
            rw [if_pos rfl]; exact hp
          · rw [getD_set_ne false (Ne.symm hji)] at hjl
            rw [if_neg hji]
            by_cases hij : i = jj
            · subst hij
              rcases hor with hl | hl | hl
              · exact V'.monoX hl _ _ _ hbB (H.facts j V' hj hjl (.inl hl))
              · have e1 : (listed.setIfInBounds i true).getD i false = true := by simp [hil]
                rw [e1] at hl; cases hl
              · exact absurd hl hji
            · rw [getD_set_ne false hij] at hor
              have hne : Nat.beq i jj = false := by
                cases hq : Nat.beq i jj with
                | false => rfl
                | true => exact absurd (Nat.eq_of_beq_eq_true hq) hij
              unfold relX at hb
              rw [hne] at hb
              exact V'.mono _ _ _ hb (H.facts j V' hj hjl hor)
        · intro j V' d hj hcd
          by_cases hji : j = i
          · subst hji
            rw [hvi] at hj
            cases hj
            show (if j = j then x else v j) = d
            rw [if_pos rfl]; exact V.tight d hcd x w' hp
          · show (if j = i then x else v j) = d
            rw [if_neg hji]; exact H.fits j V' d hj hcd
      unfold wpOp
      rw [ho]
      simp only
      unfold wpList at hstep
      rw [hwant]
      split
      · rename_i hwt
        rw [if_pos hwt] at hstep
        refine .inl ?_
        rcases hstep with hs | ⟨_, hs⟩
        · unfold Oper.wp at hs ⊢
          rw [hexec]
          exact uponX_move hsize hK hs
        · exact absurd hs letsOut_postX
      · rename_i hwt
        rw [if_neg hwt] at hstep
        obtain ⟨y, hy, hp, hb⟩ := hstep
        rw [put_same hsize hy]
        exact hK _ _ hp hb

/-- THE LAW: as wp_region_conf; operation jj of the head may write blocks that the region itself has made. -/
theorem wp_region_made {id : Nat} {a : Act} {w : World} (n jj : Nat) (vs : List (YieldX w.heap.size)) (hm : P.follows .mixedOrders = true) (hok : regionOk ops n = true) (htl : tailOk ops n = true)
    (hn : decide (n ≤ ops.size) = true) (hlen : vs.length = n) (h : ObsX P ops jj w.drew Q 0 ops.toList vs a []) : (Code.region id ops true).wp P Q a w := by
  refine wp_region_any hm ?_
  have hn' : n ≤ ops.size := of_decide_eq_true hn
  have hall : ∀ l, cnt (Array.replicate ops.size false) l ≤ l := by
    intro l
    induction l with
    | zero => exact Nat.le_refl _
    | succ l ih => unfold cnt; split <;> omega
  refine confX_head (B := w.heap.size) (vs := vs) (v := fun i => ((vs[i]?).bind (·.c)).getD undef) hok htl hn' hlen h ops.size (Array.replicate ops.size false) a w.drew ⟨⟨rfl, rfl, fun t => ?_⟩, ?_, by simp, Below.refl _ _, Nat.le_refl _, ?_, ?_, ?_⟩ (hall _)
  · rw [slotv_off (fun k _ _ => getD_replicate_false _ _)]
  · intro i j hi _; rw [getD_replicate_false] at hi; cases hi
  · intro i V _ hi; rw [getD_replicate_false] at hi; cases hi
  · intro i V d hi hd; simp [hi, hd]
  · intro t _; exact getD_replicate_false _ _
end
section
variable {P : Program} {ops : Array Oper} {B jj : Nat} {w0 : World} {Q : Exit → Act → World → Prop} {i : Nat} {o : Oper} {rest : List Oper} {Vs : List (YieldX B)} {C : Act} {kn : List (Nat × YieldX B × Value)}
theorem postX_is {wr : Bool} {d : Value} {C : Act} {D : Option Tmp} {w1 w : World} (hb : Below w1.heap.size w1 w) (hB : B ≤ w1.heap.size) : PostX (B := B) wr (.is d) C D w1 .normal (C.put D d) w := ⟨d, rfl, rfl, by
  unfold relX
  split
  · exact hb.mono hB
  · exact hb⟩
theorem obsX_is {d : Value} (h1 : ∀ w, Below B w0 w → (∀ e ∈ kn, Region.waitsFor .any ops i e.1 = true → usedX ops jj e.2.1 i = true → e.2.1.p e.2.2 w) → wpList P ops (PostX (B := B) (Nat.beq i jj) (.is d) C o.dst w) [o] C w)
    (h2 : ObsX P ops jj w0 Q (i + 1) rest Vs (C.put o.dst d) kn) : ObsX P ops jj w0 Q i (o :: rest) (.is d :: Vs) C kn := ⟨h1, h2⟩
theorem obsX_slice {B0 n t : Nat} {cs : Array Value} (h1 : ∀ w, Below B w0 w → (∀ e ∈ kn, Region.waitsFor .any ops i e.1 = true → usedX ops jj e.2.1 i = true → e.2.1.p e.2.2 w) → wpList P ops (PostX (B := B) (Nat.beq i jj) (.slice B0 n t cs) C o.dst w) [o] C w)
    (h2 : ∀ x, ObsX P ops jj w0 Q (i + 1) rest Vs (C.put o.dst x) ((i, .slice B0 n t cs, x) :: kn)) : ObsX P ops jj w0 Q i (o :: rest) (.slice B0 n t cs :: Vs) C kn := ⟨h1, h2⟩
theorem obsX_own {B0 size n : Nat} {e : TypeId} {xs : List Value} (h1 : ∀ w, Below B w0 w → (∀ e ∈ kn, Region.waitsFor .any ops i e.1 = true → usedX ops jj e.2.1 i = true → e.2.1.p e.2.2 w) → wpList P ops (PostX (B := B) (Nat.beq i jj) (.own B0 e size n xs) C o.dst w) [o] C w)
    (h2 : ∀ x, ObsX P ops jj w0 Q (i + 1) rest Vs (C.put o.dst x) ((i, .own B0 e size n xs, x) :: kn)) : ObsX P ops jj w0 Q i (o :: rest) (.own B0 e size n xs :: Vs) C kn := ⟨h1, h2⟩
theorem obsX_end {tail : List Oper} (h : ∀ w, Below B w0 w → (∀ e ∈ kn, (e.2.1.last = true ∨ e.1 = jj) → e.2.1.p e.2.2 w) → wpList P ops Q tail C w) : ObsX P ops jj w0 Q i tail [] C kn := by
  cases tail <;> exact h
end
end Go.Proofs.Ytfbghdkbimnnbaa
