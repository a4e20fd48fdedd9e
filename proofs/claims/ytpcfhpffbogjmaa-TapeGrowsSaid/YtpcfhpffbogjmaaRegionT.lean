/- A law of my own for a region whose order is drawn, one of whose operations stores into blocks that none of the others read: each operation is walked once, in the order of the text; nothing of the program is imported. -/
import Derived.Test.YtpcfhpffbogjmaaRegion
namespace Go.Proofs.Ytpcfhpffbogjmaa
open Go.RowKit

/-- Only blocks of S were written; others may be new. -/
structure Spare (S : Nat → Prop) (w w' : World) : Prop where
  os : w'.os = w.os
  tape : w'.tape = w.tape
  output : w'.output = w.output
  size : w.heap.size ≤ w'.heap.size
  block : ∀ b, b < w.heap.size → ¬ S b → w'.heap[b]? = w.heap[b]?
namespace Spare
variable {S : Nat → Prop} {w w' w'' : World}
theorem refl (S : Nat → Prop) (w : World) : Spare S w w := ⟨rfl, rfl, rfl, Nat.le_refl _, fun _ _ _ => rfl⟩
theorem trans (h : Spare S w w') (k : Spare S w' w'') : Spare S w w'' := ⟨k.os.trans h.os, k.tape.trans h.tape, k.output.trans h.output, Nat.le_trans h.size k.size, fun b hb hs => (k.block b (Nat.lt_of_lt_of_le hb h.size) hs).trans (h.block b hb hs)⟩
theorem ofBelow (h : Below w.heap.size w w') : Spare S w w' := ⟨h.os, h.tape, h.output, h.size, fun b hb _ => h.block b hb⟩
theorem below (h : Spare S w w') {B : Nat} {a : World} (k : Below B a w) (hS : ∀ b, S b → B ≤ b) (hB : B ≤ w.heap.size) : Below B a w' :=
  ⟨h.os.trans k.os, h.tape.trans k.tape, h.output.trans k.output, Nat.le_trans k.size h.size, fun b hb => (h.block b (by omega) fun e => by have := hS b e; omega).trans (k.block b hb)⟩
theorem keep (h : Spare S w w') {g : Nat} {t : TypeId} {cs : Array Value} (hg : Blk w g t cs) (hS : ¬ S g) : Blk w' g t cs := (h.block g hg.lt hS).trans hg
theorem cell (h : Spare S w w') {p : Addr} (hp : p.block < w.heap.size) (hS : ¬ S p.block) : w'.cell? p = w.cell? p := by
  have hb := h.block p.block hp hS
  unfold World.cell?
  simp only [hb]
theorem setRow {g : Nat} (hg : S g) (cs : Array Value) : Spare S w (w.setRow g cs) := ⟨rfl, rfl, rfl, by simp [World.setRow], fun b _ hs => setRow_other w g b cs (fun e => hs (e ▸ hg))⟩
theorem setCell {p : Addr} (hg : S p.block) (v : Value) : Spare S w (w.setCell p v) := ⟨rfl, rfl, rfl, by simp [World.setCell], fun b _ hs => heap_setCell_other w p b v (fun e => hs (e ▸ hg))⟩
end Spare

/-- What is asked of one operation. -/
def PostT (d : Value) (R : World → World → Prop) (q : World → Prop) (C : Act) (D : Option Tmp) (w1 : World) : Exit → Act → World → Prop
  | .normal, a, w => a = C.put D d ∧ R w1 w ∧ q w
  | _, _, _ => False
abbrev PostTB (d : Value) (C : Act) (D : Option Tmp) (w1 : World) := PostT d (fun w w' => Below w.heap.size w w') (fun _ => True) C D w1
section
variable {P : Program} {ops : Array Oper}
theorem letsOut_postT {d : Value} {R : World → World → Prop} {q : World → Prop} {C : Act} {D : Option Tmp} {w1 : World} : ¬ LetsOut (PostT d R q C D w1) := fun ⟨_, _, h⟩ => h
theorem upon_moveT {o : Oper} {a C : Act} (hs : a.tmps.size = C.tmps.size) {d : Value} {R : World → World → Prop} {q : World → Prop} {w1 : World} {K : Act → World → Prop} {Q : Exit → Act → World → Prop}
    (hK : ∀ w, R w1 w → q w → K (a.put o.dst d) w) {r : Result Next} (h : o.upon P C (PostT d R q C o.dst w1 .normal) (PostT d R q C o.dst w1) r) : o.upon P a K Q r := by
  have any : ∀ x w, PostT d R q C o.dst w1 .normal (C.put o.dst x) w → K (a.put o.dst x) w := by
    rintro x w ⟨hy, hp, hb⟩
    rw [put_same hs hy]
    exact hK _ hp hb
  cases r with
  | ok n w' =>
    cases n <;> simp only [Oper.upon] at h ⊢
    case value x => exact any _ _ h
    case skip => exact any _ _ h
    case defer d =>
      obtain ⟨hy, _, _⟩ := h
      have e := congrArg Act.defers hy
      rw [put_defers, put_defers] at e
      exact absurd (congrArg List.length e) (by simp)
    case enter f args =>
      refine h.mono fun e w'' he => ?_
      cases e with
      | returned v => exact any _ _ he
      | panicked c => exact (he : False).elim
      | outgrown => exact absurd he letsOut_postT
    case row row args => exact Rows.mono h fun v w'' he => any _ _ he
  | halt x w' => cases x <;> simp only [Oper.upon] at h ⊢ <;> exact (h : False).elim
end
section
variable (P : Program) (ops : Array Oper) (w0 : World) (Q : Exit → Act → World → Prop) (S : Nat → Prop) (j : Nat) (q p : World → Prop)
/-- The operations of the head, in the order of the text, each with the value that it comes to; operation j stores: q holds ahead of it (so at whatever it waits for), p behind it. -/
def ObsT : Nat → List Oper → List Value → Act → Prop
  | _, tail, [], C => ∀ w, Spare S w0 w → p w → wpList P ops Q tail C w
  | _, [], _ :: _, _ => False
  | i, o :: rest, d :: ds, C =>
    (∀ w, Spare S w0 w → (i = j ∨ Region.waitsFor .any ops j i = true → q w) → wpList P ops (PostT d (if i = j then Spare S else fun w w' => Below w.heap.size w w') (if i = j then p else fun _ => True) C o.dst w) [o] C w) ∧ ObsT (i + 1) rest ds (C.put o.dst d)
end
section
variable {P : Program} {ops : Array Oper} {n j : Nat} {ds : List Value} {w0 : World} {a0 : Act} {Q : Exit → Act → World → Prop} {S : Nat → Prop} {q p : World → Prop}
theorem obsT_at (hO : ObsT P ops w0 Q S j q p 0 ops.toList ds a0) (hl : ds.length ≤ ops.size) (v : Nat → Value) (hv : ∀ i, i < ds.length → v i = ds.getD i undef) :
    ∀ i, i ≤ ds.length → ObsT P ops w0 Q S j q p i (ops.toList.drop i) (ds.drop i) (pre ops a0 v i)
  | 0, _ => by simp only [List.drop_zero]; exact hO
  | i + 1, hi => by
    have ih := obsT_at hO hl v hv i (by omega)
    rw [List.drop_eq_getElem_cons (by simp; omega : i < ops.toList.length), List.drop_eq_getElem_cons (by omega : i < ds.length)] at ih
    have hd : dstOf ops i = (ops.toList[i]'(by simp; omega)).dst := by
      unfold dstOf
      rw [Array.getElem?_eq_getElem (by omega)]
      simp
    have h2 := ih.2
    rw [pre, hd, hv i (by omega), List.getD_eq_getElem?_getD, List.getElem?_eq_getElem (by omega)]
    exact h2
structure HeadT (ops : Array Oper) (n j : Nat) (w0 : World) (a0 : Act) (S : Nat → Prop) (q p : World → Prop) (v : Nat → Value) (listed : Array Bool) (a : Act) (w : World) : Prop where
  frame : Fr ops a0 a v (fun k => listed.getD k false) n
  closed : Closed ops listed
  size : listed.size = ops.size
  spare : Spare S w0 w
  ahead : listed.getD j false = false → q w
  stored : listed.getD j false = true → p w
  tail : ∀ t, n ≤ t → listed.getD t false = false
theorem headT_pre {v : Nat → Value} {listed : Array Bool} {a : Act} {w : World} (H : HeadT ops n j w0 a0 S q p v listed a w) (hall : ∀ i, i < n → listed.getD i false = true) : a = pre ops a0 v n := by
  refine act_ext (by rw [H.frame.defers, pre_defers]) fun t => ?_
  rw [H.frame.slot, pre_slot]
  exact slotv_congr fun k hk _ => ⟨by rw [hall k hk], fun _ => rfl⟩
theorem conf_headT (hok : regionOk ops n = true) (htl : tailOk ops n = true) (hn : n ≤ ops.size) (hlen : ds.length = n) (hj : j < n) (hqs : ∀ w w', Below w.heap.size w w' → q w → q w') (hp : ∀ w w', Below w.heap.size w w' → p w → p w') (hO : ObsT P ops w0 Q S j q p 0 ops.toList ds a0)
    (v : Nat → Value) (hv : ∀ i, i < ds.length → v i = ds.getD i undef) :
    ∀ (fuel : Nat) (listed : Array Bool) (a : Act) (w : World), HeadT ops n j w0 a0 S q p v listed a w → cnt listed ops.size ≤ fuel → wpAny P .any ops Q fuel listed a w := by
  have fin : ∀ (listed : Array Bool) (a : Act) (w : World), HeadT ops n j w0 a0 S q p v listed a w → (∀ i, i < n → listed.getD i false = true) → wpList P ops Q (ops.toList.drop n) a w := fun listed a w H hall => by
    have hF := obsT_at hO (by omega) v hv n (by omega)
    rw [← hlen, List.drop_length, hlen] at hF
    unfold ObsT at hF
    have hfin := hF w H.spare (H.stored (hall j hj))
    rw [← headT_pre H hall] at hfin
    exact hfin
  intro fuel
  induction fuel with
  | zero =>
    intro listed a w H hc
    have hall : ∀ i, i < ops.size → listed.getD i false = true := fun i hi => by
      cases h : listed.getD i false with
      | true => rfl
      | false =>
        have := cnt_pos (listed := listed) (i := i) (by rw [getD_iff (by rw [H.size]; exact hi)]; exact h) hi
        omega
    exact conf_tail hok htl (ops.size - n) n (by omega) (Nat.le_refl _) listed a w 0 H.size (fun i hi => hall i (by omega)) (fun i hi => H.tail i hi) hc (fin listed a w H fun i hi => hall i (by omega))
  | succ fuel ih =>
    intro listed a w H hc
    by_cases hall : ∀ i, i < n → listed.getD i false = true
    · exact conf_tail hok htl (ops.size - n) n (by omega) (Nat.le_refl _) listed a w _ H.size hall (fun i hi => H.tail i hi) hc (fin listed a w H hall)
    · have hex : ∃ i, i < n ∧ listed.getD i false = false ∧ ∀ j, j < i → listed.getD j false = true := by
        have : ∃ i, i < n ∧ listed.getD i false = false := Classical.byContradiction fun hno => hall fun i hi => by
          cases h : listed.getD i false with
          | true => rfl
          | false => exact absurd ⟨i, hi, h⟩ hno
        obtain ⟨i, hi⟩ := this
        induction i using Nat.strongRecOn with
        | _ i ihn =>
          by_cases hj : ∃ j, j < i ∧ listed.getD j false = false
          · obtain ⟨j, hji, hjf⟩ := hj
            exact ihn j hji ⟨by omega, hjf⟩
          · refine ⟨i, hi.1, hi.2, fun j hji => ?_⟩
            cases h : listed.getD j false with
            | true => rfl
            | false => exact absurd ⟨j, hji, h⟩ hj
      obtain ⟨l, hln, hlf, hlb⟩ := hex
      have hls : l < ops.size := by omega
      have hlr : l ∈ Region.ready .any ops listed := mem_ready.2 ⟨by rw [getD_iff (by rw [H.size]; exact hls)]; exact hlf, ops[l], Array.getElem?_eq_getElem hls, fun e he hb => hlb e.on (ok_back hok (waits_iff.2 ⟨_, Array.getElem?_eq_getElem hls, e, he, hb, rfl⟩))⟩
      refine ⟨fun h => (by rw [h] at hlr; cases hlr), fun i hi => ?_⟩
      obtain ⟨hf, o, ho, hdeps⟩ := mem_ready.1 hi
      have his := lt_of_at ho
      have hw : ∀ j, Region.waitsFor .any ops i j = true → listed.getD j false = true := fun j hj => by
        obtain ⟨o', ho', e, he, hb, rfl⟩ := waits_iff.1 hj
        have : o' = o := Option.some.inj (ho'.symm.trans ho)
        subst this
        exact hdeps e he hb
      have hin : i < n := by
        rcases Nat.lt_or_ge i n with h | h
        · exact h
        · have := ok_tail htl H.closed h his (i := l) (by omega) hw
          rw [hlf] at this; cases this
      have hff : listed.getD i false = false := by rw [← getD_iff (by rw [H.size]; exact his)]; exact hf
      have hF := obsT_at hO (by omega) v hv i (by omega)
      rw [List.drop_eq_getElem_cons (by simpa using his), List.drop_eq_getElem_cons (by omega : i < ds.length)] at hF
      have hoe : ops.toList[i]'(by simpa using his) = o := by
        have := (Array.getElem?_eq_some_iff.1 ho).2
        simpa using this
      have hdv : ds[i]'(by omega) = v i := by rw [hv i (by omega), List.getD_eq_getElem?_getD, List.getElem?_eq_getElem (by omega)]; rfl
      rw [hoe, hdv] at hF
      have hstep := hF.1 w H.spare (fun e => H.ahead (by
        rcases e with e | e
        · rw [← e]; exact hff
        · cases hjl : listed.getD j false with
          | false => rfl
          | true => have := H.closed j i hjl e; rw [hff] at this; cases this))
      obtain ⟨hsel, hlook⟩ := ok_look hok hin ho
      have hslots : ∀ t ∈ o.looksAt ops, a.tmps[t]? = (pre ops a0 v i).tmps[t]? := fun t ht => by
        rw [H.frame.slot, pre_slot]
        have e1 : slotv ops a0 v (fun _ => true) i t = slotv ops a0 v (fun k => decide (k < i)) n t := by
          rw [slotv_beyond (m := fun k => decide (k < i)) (i := i) (fun k hk => by simp; omega) (by omega)]
          exact slotv_congr fun k hk _ => ⟨by simp [hk], fun _ => rfl⟩
        rw [e1]
        refine slotv_congr fun k hk hkd => ⟨?_, fun _ => rfl⟩
        rcases hlook t ht k hk hkd with h | h
        · rw [hw k h]
          have := ok_back hok h
          simp [this]
        · have hik := ok_back hok h
          cases hkl : listed.getD k false with
          | true => have := H.closed k i hkl h; rw [hff] at this; cases this
          | false => simp; omega
      have heval : ∀ x ∈ o.op.operands, a.eval x = (pre ops a0 v i).eval x := fun x hx => by
        cases x with
        | tmp t =>
          have ht : t ∈ o.looksAt ops := List.mem_append_left _ (List.mem_filterMap.2 ⟨.tmp t, by simpa using hx, rfl⟩)
          simp only [Act.eval, Array.getD_eq_getD_getElem?, hslots t ht]
        | _ => rfl
      have hexec : execOp a.eval o = execOp (pre ops a0 v i).eval o := execOp_congr o hsel heval
      have hwant := wanted_congr (ops := ops) hslots
      have hsize : a.tmps.size = (pre ops a0 v i).tmps.size := by rw [H.frame.size, pre_size]
      have hdst : dstOf ops i = o.dst := by unfold dstOf; rw [ho]; rfl
      have hK : ∀ w', (if i = j then Spare S else fun w w' => Below w.heap.size w w') w w' → (if i = j then p else fun _ => True) w' → wpAny P .any ops Q fuel (listed.setIfInBounds i true) (a.put o.dst (v i)) w' := fun w' hb hq => by
        refine ih _ _ _ ?_ (by have := cnt_set hf his; omega)
        have hil : i < listed.size := by rw [H.size]; exact his
        have hsp : Spare S w w' := by
          by_cases hij : i = j
          · rw [if_pos hij] at hb; exact hb
          · rw [if_neg hij] at hb; exact .ofBelow hb
        refine ⟨⟨by rw [put_defers, H.frame.defers], by rw [put_size, H.frame.size], fun t => ?_⟩, ?_, by simp [H.size], H.spare.trans hsp, ?_, ?_, fun t ht => by rw [getD_set_ne false (by omega)]; exact H.tail t ht⟩
        · have hs := slotv_set (a0 := a0) (v := v) (x := v i) (t := t) hok (m := fun k => listed.getD k false) (m' := fun k => (listed.setIfInBounds i true).getD k false) hin hff (by simp [hil]) (fun k hk => getD_set_ne false (Ne.symm hk))
          have he : (fun k => if k = i then v i else v k) = v := by
            funext k
            by_cases hk : k = i
            · rw [if_pos hk, hk]
            · rw [if_neg hk]
          rw [he] at hs
          rw [put_slot, hs, hdst, H.frame.size, H.frame.slot]
        · intro j k hj hjk
          by_cases hji : i = j
          · subst hji; exact getD_set_true (hw k hjk)
          · rw [getD_set_ne false hji] at hj; exact getD_set_true (H.closed j k hj hjk)
        · intro hjl
          by_cases hij : i = j
          · rw [hij, show (listed.setIfInBounds j true).getD j false = true by rw [← hij]; simp [hil]] at hjl; cases hjl
          · rw [getD_set_ne false hij] at hjl
            rw [if_neg hij] at hb
            exact hqs _ _ hb (H.ahead hjl)
        · intro hjl
          by_cases hij : i = j
          · rw [if_pos hij] at hq; exact hq
          · rw [getD_set_ne false hij] at hjl
            rw [if_neg hij] at hb
            exact hp _ _ hb (H.stored hjl)
      unfold wpOp
      rw [ho]
      simp only
      unfold wpList at hstep
      rw [hwant]
      split
      · rename_i hwt
        rw [if_pos hwt] at hstep
        refine .inl ?_
        rcases hstep with hs | ⟨_, hs⟩
        · unfold Oper.wp at hs ⊢
          rw [hexec]
          exact upon_moveT hsize hK hs
        · exact absurd hs letsOut_postT
      · rename_i hwt
        rw [if_neg hwt] at hstep
        obtain ⟨hy, hb, hq⟩ := hstep
        rw [put_same hsize hy]
        exact hK _ hb hq

/-- THE LAW: n operations of a drawn region, each with the value that it comes to; operation j alone stores, into blocks of S. -/
theorem wp_region_late {id : Nat} {a : Act} {w : World} (n j : Nat) (S : Nat → Prop) (q p : World → Prop) (ds : List Value) (hm : P.follows .mixedOrders = true) (hok : regionOk ops n = true) (htl : tailOk ops n = true)
    (hn : decide (n ≤ ops.size) = true) (hj : decide (j < n) = true) (hlen : ds.length = n) (hq0 : q w) (hq : ∀ w w', Below w.heap.size w w' → q w → q w') (hp : ∀ w w', Below w.heap.size w w' → p w → p w') (h : ObsT P ops w.drew Q S j q p 0 ops.toList ds a) : (Code.region id ops true).wp P Q a w := by
  refine wp_region_any hm ?_
  have hn' : n ≤ ops.size := of_decide_eq_true hn
  have hall : ∀ l, cnt (Array.replicate ops.size false) l ≤ l := by
    intro l
    induction l with
    | zero => exact Nat.le_refl _
    | succ l ih => unfold cnt; split <;> omega
  refine conf_headT (n := n) (j := j) (ds := ds) hok htl hn' hlen (of_decide_eq_true hj) hq hp h (fun i => ds.getD i undef) (fun _ _ => rfl) ops.size (Array.replicate ops.size false) a w.drew ⟨⟨rfl, rfl, fun t => ?_⟩, ?_, by simp, .refl _ _, fun _ => hq _ _ (Below.refl _ _).drew hq0, ?_, ?_⟩ (hall _)
  · rw [slotv_off (fun k _ _ => getD_replicate_false _ _)]
  · intro i j hi _; rw [getD_replicate_false] at hi; cases hi
  · intro hi; rw [getD_replicate_false] at hi; cases hi
  · intro t _; exact getD_replicate_false _ _
end
section
variable {P : Program} {ops : Array Oper} {w0 : World} {Q : Exit → Act → World → Prop} {S : Nat → Prop} {i j : Nat} {q p : World → Prop} {o : Oper} {rest : List Oper} {d : Value} {ds : List Value} {C C' : Act}
theorem obsT_is (hij : i ≠ j) (h1 : ∀ w, Spare S w0 w → wpList P ops (PostTB d C o.dst w) [o] C w) (h2 : ObsT P ops w0 Q S j q p (i + 1) rest ds (C.put o.dst d)) : ObsT P ops w0 Q S j q p i (o :: rest) (d :: ds) C := by
  refine ⟨fun w hw _ => ?_, h2⟩
  rw [if_neg hij, if_neg hij]
  exact h1 w hw
theorem obsT_store (h1 : ∀ w, Spare S w0 w → q w → wpList P ops (PostT d (Spare S) p C o.dst w) [o] C w) (h2 : ObsT P ops w0 Q S j q p (j + 1) rest ds (C.put o.dst d)) : ObsT P ops w0 Q S j q p j (o :: rest) (d :: ds) C := by
  refine ⟨fun w hw hq => ?_, h2⟩
  rw [if_pos rfl, if_pos rfl]
  exact h1 w hw (hq (.inl rfl))
/-- An operation that the store waits for. -/
theorem obsT_read (hij : i ≠ j) (hwt : Region.waitsFor .any ops j i = true) (h1 : ∀ w, Spare S w0 w → q w → wpList P ops (PostTB d C o.dst w) [o] C w) (h2 : ObsT P ops w0 Q S j q p (i + 1) rest ds (C.put o.dst d)) : ObsT P ops w0 Q S j q p i (o :: rest) (d :: ds) C := by
  refine ⟨fun w hw hq => ?_, h2⟩
  rw [if_neg hij, if_neg hij]
  exact h1 w hw (hq (.inr hwt))
theorem obsT_end {tail : List Oper} (h : ∀ w, Spare S w0 w → p w → wpList P ops Q tail C w) : ObsT P ops w0 Q S j q p i tail [] C := by
  cases tail <;> exact h
theorem postT_is {D : Option Tmp} {w1 w : World} (hb : Below w1.heap.size w1 w) : PostTB d C D w1 .normal (C.put D d) w := ⟨rfl, hb, trivial⟩
theorem postT_stored {D : Option Tmp} {w1 w : World} (hb : Spare S w1 w) (hp : p w) : PostT d (Spare S) p C D w1 .normal (C.put D d) w := ⟨rfl, hb, hp⟩
/-- An operation that isn't wanted. -/
theorem obsT_skip (hij : i ≠ j) (hw : Region.wanted o (yielded ops C.tmps) = false) (hC : C.put o.dst undef = C') (h2 : ObsT P ops w0 Q S j q p (i + 1) rest ds C') : ObsT P ops w0 Q S j q p i (o :: rest) (undef :: ds) C :=
  obsT_is hij (fun w _ => by
    unfold wpList
    rw [if_neg (by rw [hw]; simp)]
    exact postT_is (Below.refl _ _)) (by subst hC; exact h2)
end
end Go.Proofs.Ytpcfhpffbogjmaa
