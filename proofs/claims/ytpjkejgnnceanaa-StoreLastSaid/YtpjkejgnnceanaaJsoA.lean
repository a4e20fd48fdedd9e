/- Texts that belong together, joined: SoA, RegionT, SoB, SoC, SoD, SoE, SoF, SoG, SoP. -/
import Derived.Test.YtpjkejgnnceanaaJdisk
import Derived.Test.YtpjkejgnnceanaaJst
import Derived.Test.YtpjkejgnnceanaaRegion
import Derived.Tactics
import Derived.Tactics2
import Derived.Defers
import Derived.Recover
import Derived.Laws.Pointers
/- Package store: what a store is in memory; the small calls; sectors that are read. -/
namespace Go.Proofs.Ytpjkejgnnceanaa
open Go.RowKit

def stoCells (gd base n t : Nat) : Array Value := #[.pointer (some ⟨gd, 0, none⟩), .int .i64 base, .int .i64 n, .int .i64 t]
/-- A store at block s, over the disk at block gd. -/
structure IsSto (w : World) (F : Foot) (s gd : Nat) (D : Dk) (base n t : Nat) : Prop where
  disk : IsDisk w F gd D
  head : Blk w s 61 (stoCells gd base n t)
  apart : ¬ F s
  b5 : base ≤ 512
  n8 : n ≤ 8
namespace IsSto
variable {w w' : World} {F F' : Foot} {s gd base n t : Nat} {D D' : Dk}
theorem below (h : IsSto w F s gd D base n t) (hb : Below w.heap.size w w') : IsSto w' F s gd D base n t := ⟨h.disk.below hb, h.head.keep hb h.head.lt, h.apart, h.b5, h.n8⟩
theorem onDisk (h : IsSto w F s gd D base n t) (hd : IsDisk w' F' gd D') (hs : Step F F' w w') : IsSto w' F' s gd D' base n t :=
  ⟨hd, (hs.block s h.head.lt h.apart).trans h.head, fun hF => by rcases hs.foot s hF with h1 | h1; exact h.apart h1; have := h.head.lt; omega, h.b5, h.n8⟩
theorem cells (h : IsSto w F s gd D base n t) : w.cell? ⟨s, 0, none⟩ = some (.pointer (some ⟨gd, 0, none⟩)) ∧ w.cell? ⟨s, 1, none⟩ = some (.int .i64 base) ∧ w.cell? ⟨s, 2, none⟩ = some (.int .i64 n) ∧ w.cell? ⟨s, 3, none⟩ = some (.int .i64 t) := ⟨h.head.cell 0, h.head.cell 1, h.head.cell 2, h.head.cell 3⟩
end IsSto
section
variable {w : World} {F : Foot} {s gd base n t : Nat} {D : Dk}
set_option maxRecDepth 100000 in
theorem soHas_any (h : IsSto w F s gd D base n t) (i : Int) (yes : Bool) (hy : yes = decide (0 ≤ i ∧ i < n)) :
    Calls Try.prog 25 #[.pointer (some ⟨s, 0, none⟩), .int .i64 i] w fun e w' => e = .returned (.bool yes) ∧ w = w' := by
  obtain ⟨_, _, c2, _⟩ := h.cells
  clear h
  go_enter Try.func25, Try.ntmps25
  by_cases h0 : 0 ≤ i
  · by_cases h1 : i < n
    · rw [decide_eq_true ⟨h0, h1⟩] at hy
      subst hy
      go_wp2
      go_ret
      exact ⟨rfl, rfl⟩
    · rw [decide_eq_false (fun h => h1 h.2)] at hy
      subst hy
      go_wp2
      go_ret
      exact ⟨rfl, rfl⟩
  · rw [decide_eq_false (fun h => h0 h.1)] at hy
    subst hy
    go_wp2
    go_ret
    exact ⟨rfl, rfl⟩
set_option maxRecDepth 100000 in
theorem soHomes_any (i : Nat) (hi : i ≤ 1000) (w : World) : Calls Try.prog 32 #[.int .i64 i] w fun e w' => e = .returned (.int .i64 (3 + 2 * i : Nat)) ∧ w = w' := by
  have h1 : (i : Int) ≤ 1000 := by omega
  clear hi
  go_enter Try.func32, Try.ntmps32
  go_wp2
  go_ret
  exact ⟨by congr 2, rfl⟩
set_option maxRecDepth 100000 in
theorem soIndex_any (k : Nat) (hk : k ≤ 1000) (w : World) : Calls Try.prog 48 #[.int .i64 k] w fun e w' => e = .returned (.int .u32 (idxOf k : Nat)) ∧ w = w' := by
  have h1 : (k : Int) ≤ 1000 := by omega
  unfold idxOf
  by_cases h : k < 3
  · have h2 : ¬ (3 : Int) ≤ k := by omega
    rw [if_pos h]
    have h3 : (k : Int) % 4294967296 = k := by omega
    clear h hk
    go_enter Try.func48, Try.ntmps48
    go_wp2
    go_ret
    exact ⟨by congr 2, rfl⟩
  · have h2 : (3 : Int) ≤ k := by omega
    rw [if_neg h]
    have h3 : ((k - 3 : Nat) : Int) = (k : Int) - 3 := by omega
    rw [h3]
    clear h hk h3
    go_enter Try.func48, Try.ntmps48
    go_wp2
    go_ret
    exact ⟨rfl, rfl⟩
set_option maxRecDepth 100000 in
theorem soSectors_any (n : Nat) (hn : n ≤ 8) (w : World) : Calls Try.prog 21 #[.int .i64 n] w fun e w' => e = .returned (.int .i64 (3 + 2 * n : Nat)) ∧ w = w' := by
  have h1 : (n : Int) ≤ 8 := by omega
  have h0 : ¬ (n : Int) < 0 := by omega
  clear hn
  go_enter Try.func21, Try.ntmps21
  go_wp2
  go_ret
  exact ⟨by congr 2, rfl⟩
set_option maxRecDepth 100000 in
theorem soTicket_any (h : IsSto w F s gd D base n t) : Calls Try.prog 20 #[.pointer (some ⟨s, 0, none⟩)] w fun e w' => e = .returned (.int .i64 t) ∧ w = w' := by
  obtain ⟨_, _, _, c3⟩ := h.cells
  clear h
  go_enter Try.func20, Try.ntmps20
  go_wp2
  go_ret
  exact ⟨rfl, rfl⟩
set_option maxRecDepth 100000 in
set_option maxHeartbeats 1000000 in
theorem soNew_ok (h : IsDisk w F gd D) (base n : Nat) (h1 : 1 ≤ n) (h8 : n ≤ 8) (hr : base + (3 + 2 * n) ≤ D.safe.length) :
    Calls Try.prog 8 #[.pointer (some ⟨gd, 0, none⟩), .int .i64 base, .int .i64 n] w fun e w' => ∃ s, e = .returned (.tuple #[.pointer (some ⟨s, 0, none⟩), .int .i64 0]) ∧ IsSto w' F s gd D base n 1 ∧ w.heap.size ≤ s ∧ Below w.heap.size w w' := by
  have hN := h.1.le
  have HS := Lib.hid (size_any h)
  have HC := Lib.hid (soSectors_any n h8)
  have H := Lib.hid h
  have a1 : decide ((n : Int) < 1) = false := by simp; omega
  have a2 : decide ((8 : Int) < (n : Int)) = false := by simp; omega
  have a3 : decide ((base : Int) < 0) = false := by simp
  have a4 : ¬ ((D.safe.length : Int) - ((3 + 2 * n : Nat) : Int) < (base : Int)) := by omega
  have a5 : (D.safe.length : Int) ≤ 512 := by omega
  have a6 : ((3 + 2 * n : Nat) : Int) ≤ 19 := by omega
  have a7 : (0 : Int) ≤ ((3 + 2 * n : Nat) : Int) := by omega
  have HB := Lib.hid (show base ≤ 512 by omega)
  have H8 := Lib.hid h8
  clear h h1 h8 hr hN
  generalize D.safe.length = N at *
  generalize 3 + 2 * n = c at *
  go_enter Try.func8, Try.ntmps8
  go_wp2_with fail
  refine HS.out.mono ?_
  rintro e w1 ⟨rfl, rfl⟩
  go_wp2_with fail
  refine (HC.out _).mono ?_
  rintro e w1 ⟨rfl, rfl⟩
  go_wp2
  go_ret2
  refine ⟨w.heap.size, rfl, ⟨H.out.below ((Below.refl _ _).alloc (Nat.le_refl _) _), Blk.new _ _ _, fun hF => by have := H.out.lt _ hF; omega, HB.out, H8.out⟩, Nat.le_refl _, (Below.refl _ _).alloc (Nat.le_refl _) _⟩
set_option maxRecDepth 100000 in
theorem soNew_nil (base n : Int) (w : World) : Calls Try.prog 8 #[.pointer none, .int .i64 base, .int .i64 n] w fun e w' => e = .returned (.tuple #[.pointer none, .int .i64 10]) ∧ w = w' := by
  go_enter Try.func8, Try.ntmps8
  go_wp2
  go_ret2
  exact ⟨rfl, rfl⟩
end
end Go.Proofs.Ytpjkejgnnceanaa

/- A law of my own for a region whose order is drawn, one of whose operations stores into blocks that none of the others read: each operation is walked once, in the order of the text; nothing of the program is imported. -/
namespace Go.Proofs.Ytpjkejgnnceanaa
open Go.RowKit

/-- Only blocks of S were written; others may be new. -/
structure Spare (S : Nat → Prop) (w w' : World) : Prop where
  os : w'.os = w.os
  tape : w'.tape = w.tape
  output : w'.output = w.output
  size : w.heap.size ≤ w'.heap.size
  block : ∀ b, b < w.heap.size → ¬ S b → w'.heap[b]? = w.heap[b]?
namespace Spare
variable {S : Nat → Prop} {w w' w'' : World}
theorem refl (S : Nat → Prop) (w : World) : Spare S w w := ⟨rfl, rfl, rfl, Nat.le_refl _, fun _ _ _ => rfl⟩
theorem trans (h : Spare S w w') (k : Spare S w' w'') : Spare S w w'' := ⟨k.os.trans h.os, k.tape.trans h.tape, k.output.trans h.output, Nat.le_trans h.size k.size, fun b hb hs => (k.block b (Nat.lt_of_lt_of_le hb h.size) hs).trans (h.block b hb hs)⟩
theorem ofBelow (h : Below w.heap.size w w') : Spare S w w' := ⟨h.os, h.tape, h.output, h.size, fun b hb _ => h.block b hb⟩
theorem below (h : Spare S w w') {B : Nat} {a : World} (k : Below B a w) (hS : ∀ b, S b → B ≤ b) (hB : B ≤ w.heap.size) : Below B a w' :=
  ⟨h.os.trans k.os, h.tape.trans k.tape, h.output.trans k.output, Nat.le_trans k.size h.size, fun b hb => (h.block b (by omega) fun e => by have := hS b e; omega).trans (k.block b hb)⟩
theorem keep (h : Spare S w w') {g : Nat} {t : TypeId} {cs : Array Value} (hg : Blk w g t cs) (hS : ¬ S g) : Blk w' g t cs := (h.block g hg.lt hS).trans hg
theorem cell (h : Spare S w w') {p : Addr} (hp : p.block < w.heap.size) (hS : ¬ S p.block) : w'.cell? p = w.cell? p := by
  have hb := h.block p.block hp hS
  unfold World.cell?
  simp only [hb]
theorem setRow {g : Nat} (hg : S g) (cs : Array Value) : Spare S w (w.setRow g cs) := ⟨rfl, rfl, rfl, by simp [World.setRow], fun b _ hs => setRow_other w g b cs (fun e => hs (e ▸ hg))⟩
theorem setCell {p : Addr} (hg : S p.block) (v : Value) : Spare S w (w.setCell p v) := ⟨rfl, rfl, rfl, by simp [World.setCell], fun b _ hs => heap_setCell_other w p b v (fun e => hs (e ▸ hg))⟩
end Spare

/-- What is asked of one operation. -/
def PostT (d : Value) (R : World → World → Prop) (q : World → Prop) (C : Act) (D : Option Tmp) (w1 : World) : Exit → Act → World → Prop
  | .normal, a, w => a = C.put D d ∧ R w1 w ∧ q w
  | _, _, _ => False
abbrev PostTB (d : Value) (C : Act) (D : Option Tmp) (w1 : World) := PostT d (fun w w' => Below w.heap.size w w') (fun _ => True) C D w1
section
variable {P : Program} {ops : Array Oper}
theorem letsOut_postT {d : Value} {R : World → World → Prop} {q : World → Prop} {C : Act} {D : Option Tmp} {w1 : World} : ¬ LetsOut (PostT d R q C D w1) := fun ⟨_, _, h⟩ => h
theorem upon_moveT {o : Oper} {a C : Act} (hs : a.tmps.size = C.tmps.size) {d : Value} {R : World → World → Prop} {q : World → Prop} {w1 : World} {K : Act → World → Prop} {Q : Exit → Act → World → Prop}
    (hK : ∀ w, R w1 w → q w → K (a.put o.dst d) w) {r : Result Next} (h : o.upon P C (PostT d R q C o.dst w1 .normal) (PostT d R q C o.dst w1) r) : o.upon P a K Q r := by
  have any : ∀ x w, PostT d R q C o.dst w1 .normal (C.put o.dst x) w → K (a.put o.dst x) w := by
    rintro x w ⟨hy, hp, hb⟩
    rw [put_same hs hy]
    exact hK _ hp hb
  cases r with
  | ok n w' =>
    cases n <;> simp only [Oper.upon] at h ⊢
    case value x => exact any _ _ h
    case skip => exact any _ _ h
    case defer d =>
      obtain ⟨hy, _, _⟩ := h
      have e := congrArg Act.defers hy
      rw [put_defers, put_defers] at e
      exact absurd (congrArg List.length e) (by simp)
    case enter f args =>
      refine h.mono fun e w'' he => ?_
      cases e with
      | returned v => exact any _ _ he
      | panicked c => exact (he : False).elim
      | outgrown => exact absurd he letsOut_postT
    case row row args => exact Rows.mono h fun v w'' he => any _ _ he
  | halt x w' => cases x <;> simp only [Oper.upon] at h ⊢ <;> exact (h : False).elim
end
section
variable (P : Program) (ops : Array Oper) (w0 : World) (Q : Exit → Act → World → Prop) (S : Nat → Prop) (j : Nat) (q p : World → Prop)
/-- The operations of the head, in the order of the text, each with the value that it comes to; operation j stores: q holds ahead of it, p behind it. -/
def ObsT : Nat → List Oper → List Value → Act → Prop
  | _, tail, [], C => ∀ w, Spare S w0 w → p w → wpList P ops Q tail C w
  | _, [], _ :: _, _ => False
  | i, o :: rest, d :: ds, C =>
    (∀ w, Spare S w0 w → (i = j → q w) → wpList P ops (PostT d (if i = j then Spare S else fun w w' => Below w.heap.size w w') (if i = j then p else fun _ => True) C o.dst w) [o] C w) ∧ ObsT (i + 1) rest ds (C.put o.dst d)
end
section
variable {P : Program} {ops : Array Oper} {n j : Nat} {ds : List Value} {w0 : World} {a0 : Act} {Q : Exit → Act → World → Prop} {S : Nat → Prop} {q p : World → Prop}
theorem obsT_at (hO : ObsT P ops w0 Q S j q p 0 ops.toList ds a0) (hl : ds.length ≤ ops.size) (v : Nat → Value) (hv : ∀ i, i < ds.length → v i = ds.getD i undef) :
    ∀ i, i ≤ ds.length → ObsT P ops w0 Q S j q p i (ops.toList.drop i) (ds.drop i) (pre ops a0 v i)
  | 0, _ => by simp only [List.drop_zero]; exact hO
  | i + 1, hi => by
    have ih := obsT_at hO hl v hv i (by omega)
    rw [List.drop_eq_getElem_cons (by simp; omega : i < ops.toList.length), List.drop_eq_getElem_cons (by omega : i < ds.length)] at ih
    have hd : dstOf ops i = (ops.toList[i]'(by simp; omega)).dst := by
      unfold dstOf
      rw [Array.getElem?_eq_getElem (by omega)]
      simp
    have h2 := ih.2
    rw [pre, hd, hv i (by omega), List.getD_eq_getElem?_getD, List.getElem?_eq_getElem (by omega)]
    exact h2
structure HeadT (ops : Array Oper) (n j : Nat) (w0 : World) (a0 : Act) (S : Nat → Prop) (q p : World → Prop) (v : Nat → Value) (listed : Array Bool) (a : Act) (w : World) : Prop where
  frame : Fr ops a0 a v (fun k => listed.getD k false) n
  closed : Closed ops listed
  size : listed.size = ops.size
  spare : Spare S w0 w
  ahead : listed.getD j false = false → q w
  stored : listed.getD j false = true → p w
  tail : ∀ t, n ≤ t → listed.getD t false = false
theorem headT_pre {v : Nat → Value} {listed : Array Bool} {a : Act} {w : World} (H : HeadT ops n j w0 a0 S q p v listed a w) (hall : ∀ i, i < n → listed.getD i false = true) : a = pre ops a0 v n := by
  refine act_ext (by rw [H.frame.defers, pre_defers]) fun t => ?_
  rw [H.frame.slot, pre_slot]
  exact slotv_congr fun k hk _ => ⟨by rw [hall k hk], fun _ => rfl⟩
theorem conf_headT (hok : regionOk ops n = true) (htl : tailOk ops n = true) (hn : n ≤ ops.size) (hlen : ds.length = n) (hj : j < n) (hqs : ∀ w w', Below w.heap.size w w' → q w → q w') (hp : ∀ w w', Below w.heap.size w w' → p w → p w') (hO : ObsT P ops w0 Q S j q p 0 ops.toList ds a0)
    (v : Nat → Value) (hv : ∀ i, i < ds.length → v i = ds.getD i undef) :
    ∀ (fuel : Nat) (listed : Array Bool) (a : Act) (w : World), HeadT ops n j w0 a0 S q p v listed a w → cnt listed ops.size ≤ fuel → wpAny P .any ops Q fuel listed a w := by
  have fin : ∀ (listed : Array Bool) (a : Act) (w : World), HeadT ops n j w0 a0 S q p v listed a w → (∀ i, i < n → listed.getD i false = true) → wpList P ops Q (ops.toList.drop n) a w := fun listed a w H hall => by
    have hF := obsT_at hO (by omega) v hv n (by omega)
    rw [← hlen, List.drop_length, hlen] at hF
    unfold ObsT at hF
    have hfin := hF w H.spare (H.stored (hall j hj))
    rw [← headT_pre H hall] at hfin
    exact hfin
  intro fuel
  induction fuel with
  | zero =>
    intro listed a w H hc
    have hall : ∀ i, i < ops.size → listed.getD i false = true := fun i hi => by
      cases h : listed.getD i false with
      | true => rfl
      | false =>
        have := cnt_pos (listed := listed) (i := i) (by rw [getD_iff (by rw [H.size]; exact hi)]; exact h) hi
        omega
    exact conf_tail hok htl (ops.size - n) n (by omega) (Nat.le_refl _) listed a w 0 H.size (fun i hi => hall i (by omega)) (fun i hi => H.tail i hi) hc (fin listed a w H fun i hi => hall i (by omega))
  | succ fuel ih =>
    intro listed a w H hc
    by_cases hall : ∀ i, i < n → listed.getD i false = true
    · exact conf_tail hok htl (ops.size - n) n (by omega) (Nat.le_refl _) listed a w _ H.size hall (fun i hi => H.tail i hi) hc (fin listed a w H hall)
    · have hex : ∃ i, i < n ∧ listed.getD i false = false ∧ ∀ j, j < i → listed.getD j false = true := by
        have : ∃ i, i < n ∧ listed.getD i false = false := Classical.byContradiction fun hno => hall fun i hi => by
          cases h : listed.getD i false with
          | true => rfl
          | false => exact absurd ⟨i, hi, h⟩ hno
        obtain ⟨i, hi⟩ := this
        induction i using Nat.strongRecOn with
        | _ i ihn =>
          by_cases hj : ∃ j, j < i ∧ listed.getD j false = false
          · obtain ⟨j, hji, hjf⟩ := hj
            exact ihn j hji ⟨by omega, hjf⟩
          · refine ⟨i, hi.1, hi.2, fun j hji => ?_⟩
            cases h : listed.getD j false with
            | true => rfl
            | false => exact absurd ⟨j, hji, h⟩ hj
      obtain ⟨l, hln, hlf, hlb⟩ := hex
      have hls : l < ops.size := by omega
      have hlr : l ∈ Region.ready .any ops listed := mem_ready.2 ⟨by rw [getD_iff (by rw [H.size]; exact hls)]; exact hlf, ops[l], Array.getElem?_eq_getElem hls, fun e he hb => hlb e.on (ok_back hok (waits_iff.2 ⟨_, Array.getElem?_eq_getElem hls, e, he, hb, rfl⟩))⟩
      refine ⟨fun h => (by rw [h] at hlr; cases hlr), fun i hi => ?_⟩
      obtain ⟨hf, o, ho, hdeps⟩ := mem_ready.1 hi
      have his := lt_of_at ho
      have hw : ∀ j, Region.waitsFor .any ops i j = true → listed.getD j false = true := fun j hj => by
        obtain ⟨o', ho', e, he, hb, rfl⟩ := waits_iff.1 hj
        have : o' = o := Option.some.inj (ho'.symm.trans ho)
        subst this
        exact hdeps e he hb
      have hin : i < n := by
        rcases Nat.lt_or_ge i n with h | h
        · exact h
        · have := ok_tail htl H.closed h his (i := l) (by omega) hw
          rw [hlf] at this; cases this
      have hff : listed.getD i false = false := by rw [← getD_iff (by rw [H.size]; exact his)]; exact hf
      have hF := obsT_at hO (by omega) v hv i (by omega)
      rw [List.drop_eq_getElem_cons (by simpa using his), List.drop_eq_getElem_cons (by omega : i < ds.length)] at hF
      have hoe : ops.toList[i]'(by simpa using his) = o := by
        have := (Array.getElem?_eq_some_iff.1 ho).2
        simpa using this
      have hdv : ds[i]'(by omega) = v i := by rw [hv i (by omega), List.getD_eq_getElem?_getD, List.getElem?_eq_getElem (by omega)]; rfl
      rw [hoe, hdv] at hF
      have hstep := hF.1 w H.spare (fun e => H.ahead (by rw [← e]; exact hff))
      obtain ⟨hsel, hlook⟩ := ok_look hok hin ho
      have hslots : ∀ t ∈ o.looksAt ops, a.tmps[t]? = (pre ops a0 v i).tmps[t]? := fun t ht => by
        rw [H.frame.slot, pre_slot]
        have e1 : slotv ops a0 v (fun _ => true) i t = slotv ops a0 v (fun k => decide (k < i)) n t := by
          rw [slotv_beyond (m := fun k => decide (k < i)) (i := i) (fun k hk => by simp; omega) (by omega)]
          exact slotv_congr fun k hk _ => ⟨by simp [hk], fun _ => rfl⟩
        rw [e1]
        refine slotv_congr fun k hk hkd => ⟨?_, fun _ => rfl⟩
        rcases hlook t ht k hk hkd with h | h
        · rw [hw k h]
          have := ok_back hok h
          simp [this]
        · have hik := ok_back hok h
          cases hkl : listed.getD k false with
          | true => have := H.closed k i hkl h; rw [hff] at this; cases this
          | false => simp; omega
      have heval : ∀ x ∈ o.op.operands, a.eval x = (pre ops a0 v i).eval x := fun x hx => by
        cases x with
        | tmp t =>
          have ht : t ∈ o.looksAt ops := List.mem_append_left _ (List.mem_filterMap.2 ⟨.tmp t, by simpa using hx, rfl⟩)
          simp only [Act.eval, Array.getD_eq_getD_getElem?, hslots t ht]
        | _ => rfl
      have hexec : execOp a.eval o = execOp (pre ops a0 v i).eval o := execOp_congr o hsel heval
      have hwant := wanted_congr (ops := ops) hslots
      have hsize : a.tmps.size = (pre ops a0 v i).tmps.size := by rw [H.frame.size, pre_size]
      have hdst : dstOf ops i = o.dst := by unfold dstOf; rw [ho]; rfl
      have hK : ∀ w', (if i = j then Spare S else fun w w' => Below w.heap.size w w') w w' → (if i = j then p else fun _ => True) w' → wpAny P .any ops Q fuel (listed.setIfInBounds i true) (a.put o.dst (v i)) w' := fun w' hb hq => by
        refine ih _ _ _ ?_ (by have := cnt_set hf his; omega)
        have hil : i < listed.size := by rw [H.size]; exact his
        have hsp : Spare S w w' := by
          by_cases hij : i = j
          · rw [if_pos hij] at hb; exact hb
          · rw [if_neg hij] at hb; exact .ofBelow hb
        refine ⟨⟨by rw [put_defers, H.frame.defers], by rw [put_size, H.frame.size], fun t => ?_⟩, ?_, by simp [H.size], H.spare.trans hsp, ?_, ?_, fun t ht => by rw [getD_set_ne false (by omega)]; exact H.tail t ht⟩
        · have hs := slotv_set (a0 := a0) (v := v) (x := v i) (t := t) hok (m := fun k => listed.getD k false) (m' := fun k => (listed.setIfInBounds i true).getD k false) hin hff (by simp [hil]) (fun k hk => getD_set_ne false (Ne.symm hk))
          have he : (fun k => if k = i then v i else v k) = v := by
            funext k
            by_cases hk : k = i
            · rw [if_pos hk, hk]
            · rw [if_neg hk]
          rw [he] at hs
          rw [put_slot, hs, hdst, H.frame.size, H.frame.slot]
        · intro j k hj hjk
          by_cases hji : i = j
          · subst hji; exact getD_set_true (hw k hjk)
          · rw [getD_set_ne false hji] at hj; exact getD_set_true (H.closed j k hj hjk)
        · intro hjl
          by_cases hij : i = j
          · rw [hij, show (listed.setIfInBounds j true).getD j false = true by rw [← hij]; simp [hil]] at hjl; cases hjl
          · rw [getD_set_ne false hij] at hjl
            rw [if_neg hij] at hb
            exact hqs _ _ hb (H.ahead hjl)
        · intro hjl
          by_cases hij : i = j
          · rw [if_pos hij] at hq; exact hq
          · rw [getD_set_ne false hij] at hjl
            rw [if_neg hij] at hb
            exact hp _ _ hb (H.stored hjl)
      unfold wpOp
      rw [ho]
      simp only
      unfold wpList at hstep
      rw [hwant]
      split
      · rename_i hwt
        rw [if_pos hwt] at hstep
        refine .inl ?_
        rcases hstep with hs | ⟨_, hs⟩
        · unfold Oper.wp at hs ⊢
          rw [hexec]
          exact upon_moveT hsize hK hs
        · exact absurd hs letsOut_postT
      · rename_i hwt
        rw [if_neg hwt] at hstep
        obtain ⟨hy, hb, hq⟩ := hstep
        rw [put_same hsize hy]
        exact hK _ hb hq

/-- THE LAW: n operations of a drawn region, each with the value that it comes to; operation j alone stores, into blocks of S. -/
theorem wp_region_late {id : Nat} {a : Act} {w : World} (n j : Nat) (S : Nat → Prop) (q p : World → Prop) (ds : List Value) (hm : P.follows .mixedOrders = true) (hok : regionOk ops n = true) (htl : tailOk ops n = true)
    (hn : decide (n ≤ ops.size) = true) (hj : decide (j < n) = true) (hlen : ds.length = n) (hq0 : q w) (hq : ∀ w w', Below w.heap.size w w' → q w → q w') (hp : ∀ w w', Below w.heap.size w w' → p w → p w') (h : ObsT P ops w.drew Q S j q p 0 ops.toList ds a) : (Code.region id ops true).wp P Q a w := by
  refine wp_region_any hm ?_
  have hn' : n ≤ ops.size := of_decide_eq_true hn
  have hall : ∀ l, cnt (Array.replicate ops.size false) l ≤ l := by
    intro l
    induction l with
    | zero => exact Nat.le_refl _
    | succ l ih => unfold cnt; split <;> omega
  refine conf_headT (n := n) (j := j) (ds := ds) hok htl hn' hlen (of_decide_eq_true hj) hq hp h (fun i => ds.getD i undef) (fun _ _ => rfl) ops.size (Array.replicate ops.size false) a w.drew ⟨⟨rfl, rfl, fun t => ?_⟩, ?_, by simp, .refl _ _, fun _ => hq _ _ (Below.refl _ _).drew hq0, ?_, ?_⟩ (hall _)
  · rw [slotv_off (fun k _ _ => getD_replicate_false _ _)]
  · intro i j hi _; rw [getD_replicate_false] at hi; cases hi
  · intro hi; rw [getD_replicate_false] at hi; cases hi
  · intro t _; exact getD_replicate_false _ _
end
section
variable {P : Program} {ops : Array Oper} {w0 : World} {Q : Exit → Act → World → Prop} {S : Nat → Prop} {i j : Nat} {q p : World → Prop} {o : Oper} {rest : List Oper} {d : Value} {ds : List Value} {C C' : Act}
theorem obsT_is (hij : i ≠ j) (h1 : ∀ w, Spare S w0 w → wpList P ops (PostTB d C o.dst w) [o] C w) (h2 : ObsT P ops w0 Q S j q p (i + 1) rest ds (C.put o.dst d)) : ObsT P ops w0 Q S j q p i (o :: rest) (d :: ds) C := by
  refine ⟨fun w hw _ => ?_, h2⟩
  rw [if_neg hij, if_neg hij]
  exact h1 w hw
theorem obsT_store (h1 : ∀ w, Spare S w0 w → q w → wpList P ops (PostT d (Spare S) p C o.dst w) [o] C w) (h2 : ObsT P ops w0 Q S j q p (j + 1) rest ds (C.put o.dst d)) : ObsT P ops w0 Q S j q p j (o :: rest) (d :: ds) C := by
  refine ⟨fun w hw hq => ?_, h2⟩
  rw [if_pos rfl, if_pos rfl]
  exact h1 w hw (hq rfl)
theorem obsT_end {tail : List Oper} (h : ∀ w, Spare S w0 w → p w → wpList P ops Q tail C w) : ObsT P ops w0 Q S j q p i tail [] C := by
  cases tail <;> exact h
theorem postT_is {D : Option Tmp} {w1 w : World} (hb : Below w1.heap.size w1 w) : PostTB d C D w1 .normal (C.put D d) w := ⟨rfl, hb, trivial⟩
theorem postT_stored {D : Option Tmp} {w1 w : World} (hb : Spare S w1 w) (hp : p w) : PostT d (Spare S) p C D w1 .normal (C.put D d) w := ⟨rfl, hb, hp⟩
/-- An operation that isn't wanted. -/
theorem obsT_skip (hij : i ≠ j) (hw : Region.wanted o (yielded ops C.tmps) = false) (hC : C.put o.dst undef = C') (h2 : ObsT P ops w0 Q S j q p (i + 1) rest ds C') : ObsT P ops w0 Q S j q p i (o :: rest) (undef :: ds) C :=
  obsT_is hij (fun w _ => by
    unfold wpList
    rw [if_neg (by rw [hw]; simp)]
    exact postT_is (Below.refl _ _)) (by subst hC; exact h2)
end
end Go.Proofs.Ytpjkejgnnceanaa

/- Package store: a sector's text, its slab, two slabs. -/
namespace Go.Proofs.Ytpjkejgnnceanaa
open Go.RowKit

/-- A store whose sectors are σ, all of them tidy. -/
structure Stands7 (w : World) (F : Foot) (s gd : Nat) (D : Dk) (base n t T : Nat) (σ : Sg) : Prop where
  sto : IsSto w F s gd D base n t
  lies : Lies D base n σ
  tidy : Tidy n T σ
  few : T ≤ 4294967296
theorem Stands7.below {w w' : World} {F : Foot} {s gd base n t T : Nat} {D : Dk} {σ : Sg} (h : Stands7 w F s gd D base n t T σ) (hb : Below w.heap.size w w') : Stands7 w' F s gd D base n t T σ := ⟨h.sto.below hb, h.lies, h.tidy, h.few⟩
def sgE (σ : Sg) (k : Nat) : Nat := ((σ k).map (·.1)).getD 0
def sgB (σ : Sg) (k : Nat) : ByteArray := ((σ k).map (·.2)).getD ⟨#[]⟩
def sgI (σ : Sg) (k : Nat) : Nat := if (σ k).isSome then idxOf k else 0
def sgX (σ : Sg) (k : Nat) : Nat := if (σ k).isSome then 0 else 8
section
variable {w : World} {F : Foot} {s gd base n t T : Nat} {D : Dk} {σ : Sg}
set_option maxRecDepth 100000 in
set_option maxHeartbeats 1000000 in
theorem soText_any (h : Stands7 w F s gd D base n t T σ) (k : Nat) (hk : k < 3 + 2 * n) :
    Calls Try.prog 38 #[.pointer (some ⟨s, 0, none⟩), .int .i64 k] w fun e w' => e = .returned (.string (secV σ k)) ∧ Below w.heap.size w w' := by
  obtain ⟨h1, h2, h3⟩ := h.lies.sec hk
  have HR : Hid (∀ W, Below w.heap.size w W → Calls Try.prog 55 #[.pointer (some ⟨gd, 0, none⟩), .int .i64 ((base : Int) + (k : Int))] W fun e w' => e = .returned (.tuple #[.string (secV σ k), .int .i64 0]) ∧ Below W.heap.size W w') := fun W hW => by
    have := read_any (h.sto.disk.below hW) ((base + k : Nat) : Int)
    rw [h1, h3] at this
    exact this
  obtain ⟨c0, c1, _⟩ := h.sto.cells
  have b1 : (base : Int) ≤ 512 := by have := h.sto.b5; omega
  have b2 : (k : Int) ≤ 19 := by have := h.sto.n8; omega
  clear h h1 h2 h3 hk
  generalize secV σ k = x at *
  go_enter Try.func38, Try.ntmps38
  go_wp2_with fail
  have C : Hid (∀ W, Below w.heap.size w W → W.cell? ⟨s, 0, none⟩ = some (.pointer (some ⟨gd, 0, none⟩)) ∧ W.cell? ⟨s, 1, none⟩ = some (.int .i64 base)) := fun W hW => ⟨(hW.cell (p := ⟨s, 0, none⟩) (World.block_lt_of_cell? w _ c0)).trans c0, (hW.cell (p := ⟨s, 1, none⟩) (World.block_lt_of_cell? w _ c1)).trans c1⟩
  clear c0 c1
  refine' wp_region_conf 16 (.is _ :: .is _ :: .is _ :: .is _ :: .is _ :: .is _ :: .is _ :: .is _ :: .is _ :: .is _ :: .is _ :: .is _ :: .is _ :: .is _ :: .is _ :: .is _ :: []) (by kernel_rfl) (by kernel_rfl) (by kernel_rfl) (by kernel_rfl) rfl ?main
  case main =>
    iterate 16
      refine obs_is (fun w4 hE4 _ => ?_) ?_
      · have hb4 := (Below.refl w.heap.size w).drew.trans hE4
        obtain ⟨d0, d1⟩ := C.out w4 hb4
        go_wp2_with (go_at_call 55; refine (HR.out _ hb4).mono ?_; rintro e w5 ⟨rfl, hb5⟩)
        first | exact post_is hb5 | exact post_is (Below.refl _ _)
      simp only [Act.put, List.setIfInBounds_toArray, List.set_cons_zero, List.set_cons_succ]
    refine obs_end fun w3 hE3 _ => ?_
    have HB := Lib.hid ((Below.refl w.heap.size w).drew.trans hE3)
    clear hE3
    change wpList _ _ _ _ _ _
    go_wp2
    go_ret
    exact ⟨rfl, HB.out⟩
theorem unpackSec_any (ht : Tidy n T σ) (hn : n ≤ 8) (hlt : T ≤ 4294967296) {k : Nat} (hk : k < 3 + 2 * n) (w : World) :
    Calls Try.prog 37 #[.string (secV σ k)] w fun x w' => x = .returned (.tuple #[.agg #[.int .u32 (sgE σ k : Nat), .int .u32 (sgI σ k : Nat), .string (sgB σ k)], .int .i64 (sgX σ k : Nat)]) ∧ Below w.heap.size w w' := by
  unfold sgE sgI sgB sgX
  cases h : σ k with
  | none => exact unpackSec_none h w
  | some x => exact unpackSec_some ht hn hk hlt h w
set_option maxRecDepth 100000 in
set_option maxHeartbeats 1000000 in
theorem soSlab_any (h : Stands7 w F s gd D base n t T σ) (k : Nat) (hk : k < 3 + 2 * n) :
    Calls Try.prog 52 #[.pointer (some ⟨s, 0, none⟩), .int .i64 k] w fun e w' => e = .returned (.tuple #[.agg #[.int .u32 (sgE σ k : Nat), .int .u32 (sgI σ k : Nat), .string (sgB σ k)], .bool (σ k).isSome]) ∧ Below w.heap.size w w' := by
  have H := Lib.hid h
  have HT : Hid (∀ W, Below w.heap.size w W → _) := fun W hW => soText_any (h.below hW) k hk
  have HU := Lib.hid (fun W => unpackSec_any h.tidy h.sto.n8 h.few hk W)
  have hk19 : k ≤ 19 := by have := h.sto.n8; omega
  have HI := Lib.hid (fun W => soIndex_any k (by omega) W)
  have hz : sgX σ k = if (σ k).isSome then 0 else 8 := rfl
  have hi : sgI σ k = if (σ k).isSome then idxOf k else 0 := rfl
  clear h hk
  generalize secV σ k = x at *
  generalize sgE σ k = E at *
  generalize sgB σ k = b at *
  generalize sgI σ k = I at *
  generalize sgX σ k = X at *
  generalize idxOf k = ix at *
  have R0 := (Blk.new w 75 #[.int .u32 0, .int .u32 0, .string ⟨#[]⟩])
  have B0 := (Below.refl w.heap.size w).alloc (Nat.le_refl _) (.cells #[.int .u32 0, .int .u32 0, .string ⟨#[]⟩] 75)
  by_cases hs : (σ k).isSome = true
  · rw [if_pos hs] at hz hi
    subst hz hi
    rw [hs]
    clear hs
    go_enter Try.func52, Try.ntmps52
    go_wp2_with fail
    refine (HT.out _ B0).mono ?_
    rintro e w1 ⟨rfl, hb1⟩
    go_wp2_with fail
    refine (HU.out _).mono ?_
    rintro e w2 ⟨rfl, hb2⟩
    go_upto_region 2 with fail
    have B2 := below2 (below2 B0 hb1) hb2
    have hg : w.heap.size < w2.heap.size := by have := hb1.size; have := hb2.size; have := R0.lt; omega
    have R2 := (R0.keep (below2 hb1 hb2) R0.lt).alloc (.cells #[.int .u32 E, .int .u32 I, .string b] 75)
    have X2 := Blk.new w2 75 #[.int .u32 E, .int .u32 I, .string b]
    have B3 := B2.alloc B2.size (.cells #[.int .u32 E, .int .u32 I, .string b] 75)
    change Code.wp _ _ _ _ (w2.alloc (.cells #[.int .u32 E, .int .u32 I, .string b] 75))
    have hx : w.heap.size ≠ w2.heap.size := by omega
    clear R0 B0 hb1 hb2 B2 HT HU hg
    generalize w2.alloc (.cells #[.int .u32 E, .int .u32 I, .string b] 75) = w3 at *
    generalize w2.heap.size = x at *
    have hrow : ∀ W, Spare (· = w.heap.size) w3.drew W → Blk W x 75 #[.int .u32 E, .int .u32 I, .string b] ∧ W.cell? ⟨x, 1, none⟩ = some (.int .u32 I) := fun W hW => by
      have := hW.keep X2.drew (fun e => hx e.symm)
      exact ⟨this, this.cell 1⟩
    have HROW := Lib.hid hrow
    have HR2 := Lib.hid R2
    have HB3 := Lib.hid B3
    have HX2 := Lib.hid X2
    clear hrow R2 B3 X2
    refine' wp_region_late 12 10 (· = w.heap.size) (fun W => Blk W w.heap.size 75 #[.int .u32 0, .int .u32 0, .string ⟨#[]⟩]) (fun W => Blk W w.heap.size 75 #[.int .u32 E, .int .u32 I, .string b]) (_ :: _ :: _ :: _ :: _ :: _ :: _ :: _ :: _ :: _ :: undef :: _ :: []) (by kernel_rfl) (by kernel_rfl) (by kernel_rfl) (by kernel_rfl) (by kernel_rfl) rfl HR2.out (fun W W' hb h => h.keep hb h.lt) (fun W W' hb h => h.keep hb h.lt) ?main
    case main =>
      iterate 10
        refine obsT_is (by decide) (fun w4 hE4 => ?_) ?_
        · obtain ⟨q1, q2⟩ := HROW.out w4 hE4
          go_wp2_with (first
            | (go_at_call 48; refine (HI.out _).mono ?_; rintro e w5 ⟨rfl, rfl⟩)
            | (refine wpList_load_row rfl 75 _ rfl x rfl 75 _ (0, 0) _ q1 Try.underlying75 rfl (by kernel_rfl) ?_))
          exact postT_is (Below.refl _ _)
        simp only [Act.put, List.setIfInBounds_toArray, List.set_cons_zero, List.set_cons_succ]
      refine obsT_store (fun w4 hE4 r4 => ?_) ?_
      · go_wp2_with (refine wpList_store_row rfl 75 _ _ rfl w.heap.size _ rfl rfl 75 _ r4 (by kernel_rfl) (by simp) (by simp [Value.oneCell']) ?_)
        exact postT_stored (Spare.setRow (S := (· = w.heap.size)) rfl _) (r4.setRow _)
      simp only [Act.put]
      iterate 1
        refine obsT_is (by decide) (fun w4 hE4 => ?_) ?_
        · go_wp2
          exact postT_is (Below.refl _ _)
        simp only [Act.put, List.setIfInBounds_toArray, List.set_cons_zero, List.set_cons_succ]
      refine obsT_end fun w5 hE5 r5 => ?_
      have B5 := hE5.below HB3.out.drew (fun b e => by rw [e]; exact Nat.le_refl _) HB3.out.drew.size
      change wpList _ _ _ _ _ _
      go_wp2
      exact bodyPost_ret (results_row_tmp rfl _ _ w.heap.size 75 _ _ rfl r5 Try.underlying75 rfl (by kernel_rfl)) rfl ⟨rfl, B5⟩
  · rw [if_neg hs] at hz hi
    subst hz hi
    rw [Bool.not_eq_true] at hs
    rw [hs]
    clear hs
    go_enter Try.func52, Try.ntmps52
    go_wp2_with fail
    refine (HT.out _ B0).mono ?_
    rintro e w1 ⟨rfl, hb1⟩
    go_wp2_with fail
    refine (HU.out _).mono ?_
    rintro e w2 ⟨rfl, hb2⟩
    go_upto_region 2 with fail
    have B2 := below2 (below2 B0 hb1) hb2
    have hg : w.heap.size < w2.heap.size := by have := hb1.size; have := hb2.size; have := R0.lt; omega
    have R2 := (R0.keep (below2 hb1 hb2) R0.lt).alloc (.cells #[.int .u32 E, .int .u32 0, .string b] 75)
    have X2 := Blk.new w2 75 #[.int .u32 E, .int .u32 0, .string b]
    have B3 := B2.alloc B2.size (.cells #[.int .u32 E, .int .u32 0, .string b] 75)
    change Code.wp _ _ _ _ (w2.alloc (.cells #[.int .u32 E, .int .u32 0, .string b] 75))
    have hx : w.heap.size ≠ w2.heap.size := by omega
    clear R0 B0 hb1 hb2 B2 HT HU hg
    generalize w2.alloc (.cells #[.int .u32 E, .int .u32 0, .string b] 75) = w3 at *
    generalize w2.heap.size = x at *
    have hrow : ∀ W, Spare (· = w.heap.size) w3.drew W → Blk W x 75 #[.int .u32 E, .int .u32 0, .string b] ∧ W.cell? ⟨x, 1, none⟩ = some (.int .u32 0) := fun W hW => by
      have := hW.keep X2.drew (fun e => hx e.symm)
      exact ⟨this, this.cell 1⟩
    have HROW := Lib.hid hrow
    have HR2 := Lib.hid R2
    have HB3 := Lib.hid B3
    have HX2 := Lib.hid X2
    clear hrow R2 B3 X2
    refine' wp_region_late 12 10 (· = w.heap.size) (fun W => Blk W w.heap.size 75 #[.int .u32 0, .int .u32 0, .string ⟨#[]⟩]) (fun W => Blk W w.heap.size 75 #[.int .u32 E, .int .u32 0, .string b]) (_ :: _ :: _ :: _ :: undef :: undef :: undef :: undef :: undef :: _ :: undef :: _ :: []) (by kernel_rfl) (by kernel_rfl) (by kernel_rfl) (by kernel_rfl) (by kernel_rfl) rfl HR2.out (fun W W' hb h => h.keep hb h.lt) (fun W W' hb h => h.keep hb h.lt) ?main
    case main =>
      iterate 4
        refine obsT_is (by decide) (fun w4 hE4 => ?_) ?_
        · obtain ⟨q1, q2⟩ := HROW.out w4 hE4
          go_wp2_with (first
            | (go_at_call 48; refine (HI.out _).mono ?_; rintro e w5 ⟨rfl, rfl⟩)
            | (refine wpList_load_row rfl 75 _ rfl x rfl 75 _ (0, 0) _ q1 Try.underlying75 rfl (by kernel_rfl) ?_))
          exact postT_is (Below.refl _ _)
        simp only [Act.put, List.setIfInBounds_toArray, List.set_cons_zero, List.set_cons_succ]
      iterate 5
        refine obsT_skip (by decide) (by kernel_rfl) rfl ?_
        simp only [Act.put, List.setIfInBounds_toArray, List.set_cons_zero, List.set_cons_succ]
      iterate 1
        refine obsT_is (by decide) (fun w4 hE4 => ?_) ?_
        · obtain ⟨q1, q2⟩ := HROW.out w4 hE4
          go_wp2_with (first
            | (go_at_call 48; refine (HI.out _).mono ?_; rintro e w5 ⟨rfl, rfl⟩)
            | (refine wpList_load_row rfl 75 _ rfl x rfl 75 _ (0, 0) _ q1 Try.underlying75 rfl (by kernel_rfl) ?_))
          exact postT_is (Below.refl _ _)
        simp only [Act.put, List.setIfInBounds_toArray, List.set_cons_zero, List.set_cons_succ]
      refine obsT_store (fun w4 hE4 r4 => ?_) ?_
      · go_wp2_with (refine wpList_store_row rfl 75 _ _ rfl w.heap.size _ rfl rfl 75 _ r4 (by kernel_rfl) (by simp) (by simp [Value.oneCell']) ?_)
        exact postT_stored (Spare.setRow (S := (· = w.heap.size)) rfl _) (r4.setRow _)
      simp only [Act.put]
      iterate 1
        refine obsT_is (by decide) (fun w4 hE4 => ?_) ?_
        · go_wp2
          exact postT_is (Below.refl _ _)
        simp only [Act.put, List.setIfInBounds_toArray, List.set_cons_zero, List.set_cons_succ]
      refine obsT_end fun w5 hE5 r5 => ?_
      have B5 := hE5.below HB3.out.drew (fun b e => by rw [e]; exact Nat.le_refl _) HB3.out.drew.size
      change wpList _ _ _ _ _ _
      go_wp2
      exact bodyPost_ret (results_row_tmp rfl _ _ w.heap.size 75 _ _ rfl r5 Try.underlying75 rfl (by kernel_rfl)) rfl ⟨rfl, B5⟩
end
end Go.Proofs.Ytpjkejgnnceanaa

/- Package store: sectors are written, and made safe; what isn't borne is given up. -/
namespace Go.Proofs.Ytpjkejgnnceanaa
open Go.RowKit

def gave7 : List PanicEntry := [{ v := .iface 25 (.int .i64 4), recovered := false }]
def endOf (n : Nat) : Ending := if n = 0 then .returned (.tuple #[]) else .panicked gave7
/-- Writes and syncs up to the first that isn't borne. -/
def RunA (w : World) (F : Foot) (s gd base n t : Nat) (ls : List Act7) (D : Dk) (e : Ending) (w' : World) : Prop :=
  ∃ F', e = endOf (acts ls D).2 ∧ IsSto w' F' s gd (acts ls D).1 base n t ∧ Step F F' w w'
theorem act_err {a : Act7} {D : Dk} (hf : a.fits D.safe.length) : a.err D = 0 ∨ a.err D = 4 := by
  by_cases hg : D.gone = false
  · by_cases hz : D.fuse = some 0
    · exact .inr (act_no hf (.inr hz)).1
    · exact .inl (act_yes hf hg hz).1
  · exact .inr (act_no hf (.inl (by simpa using hg))).1
theorem acts_one (a : Act7) (D : Dk) : acts [a] D = (a.on D, a.err D) := by
  rw [acts_cons]
  split
  · rename_i h; rw [h]; rfl
  · rfl
theorem act_len (a : Act7) {D : Dk} (hf : a.fits D.safe.length) : (a.on D).safe.length = D.safe.length ∧ (a.on D).waits.length ≤ D.waits.length + 1 := by
  by_cases hg : D.gone = false
  · by_cases hz : D.fuse = some 0
    · rw [(act_no hf (.inr hz)).2]; exact ⟨rfl, Nat.le_succ _⟩
    · rw [(act_yes hf hg hz).2]
      refine ⟨eff_len a (D.safe, D.waits), ?_⟩
      cases a <;> simp [Act7.eff]
  · rw [(act_no hf (.inl (by simpa using hg))).2]; exact ⟨rfl, Nat.le_succ _⟩
theorem acts_len : ∀ (l : List Act7) (D : Dk), (∀ a ∈ l, a.fits D.safe.length) → (acts l D).1.safe.length = D.safe.length ∧ (acts l D).1.waits.length ≤ D.waits.length + l.length
  | [], D, _ => ⟨rfl, Nat.le_refl _⟩
  | a :: l, D, hf => by
    obtain ⟨h1, h2⟩ := act_len a (hf a (by simp))
    rw [acts_cons]
    split
    · obtain ⟨h3, h4⟩ := acts_len l (a.on D) fun b hb => by rw [h1]; exact hf b (by simp [hb])
      exact ⟨h3.trans h1, by simp; omega⟩
    · exact ⟨h1, by simp; omega⟩
theorem acts_err : ∀ (l : List Act7) (D : Dk), (∀ a ∈ l, a.fits D.safe.length) → (acts l D).2 = 0 ∨ (acts l D).2 = 4
  | [], D, _ => .inl rfl
  | a :: l, D, hf => by
    have h0 := act_err (hf a (by simp))
    rw [acts_cons]
    split
    · exact acts_err l (a.on D) fun b hb => by rw [(act_len a (hf a (by simp))).1]; exact hf b (by simp [hb])
    · rename_i h; exact .inr (h0.resolve_left h)
theorem soNeed_yes (w : World) : Calls Try.prog 49 #[.int .i64 0] w fun e w' => e = .returned (.tuple #[]) ∧ w = w' := by
  go_enter Try.func49, Try.ntmps49
  go_wp2
  go_end0
  exact ⟨rfl, rfl⟩
theorem soNeed_no (w : World) : Calls Try.prog 49 #[.int .i64 4] w fun e w' => e = .panicked gave7 ∧ w = w' := by
  go_enter Try.func49, Try.ntmps49
  go_wp2
  exact ⟨rfl, rfl, rfl⟩
section
variable {w : World} {F : Foot} {s gd base n t : Nat} {D : Dk}
set_option maxRecDepth 100000 in
set_option maxHeartbeats 4000000 in
theorem soSync_any (h : IsSto w F s gd D base n t) : Calls Try.prog 31 #[.pointer (some ⟨s, 0, none⟩)] w (RunA w F s gd base n t [.sync] D) := by
  unfold RunA
  rw [acts_one]
  have he := act_err (a := .sync) (D := D) trivial
  have HS := Lib.hid (sync_any h.disk)
  have H := Lib.hid h
  obtain ⟨c0, _⟩ := h.cells
  clear h
  have e0 : Act7.err .sync D = D.syncE := rfl
  have e1 : Act7.on .sync D = D.sync := rfl
  rw [e0] at he
  simp only [e0, e1]
  rcases he with he | he
  all_goals
    rw [he] at HS
    rw [he]
    clear he
    go_enter Try.func31, Try.ntmps31
    go_wp2_with fail
    refine HS.out.mono ?_
    rintro e w1 ⟨rfl, hd, hs⟩
    have FIN := Lib.hid (H.out.onDisk hd hs)
    have ST := Lib.hid hs
    clear hd hs
    go_wp2_with fail
    first | refine (soNeed_yes _).mono ?_ | refine (soNeed_no _).mono ?_
    rintro e w2 ⟨rfl, rfl⟩
    go_wp2
    first
    | (go_end0; exact ⟨F, rfl, FIN.out, ST.out⟩)
    | exact ⟨rfl, F, rfl, FIN.out, ST.out⟩
end
end Go.Proofs.Ytpjkejgnnceanaa

/- Package store: a slab is written; two of them, and a sync. -/
namespace Go.Proofs.Ytpjkejgnnceanaa
open Go.RowKit

section
variable {w : World} {F : Foot} {s gd base n t : Nat} {D : Dk}
set_option maxRecDepth 100000 in
set_option maxHeartbeats 4000000 in
theorem soPut_any (h : IsSto w F s gd D base n t) {k E : Nat} {b : ByteArray} (hk : k < 3 + 2 * n) (hb : Body n k b) (he : E < 4294967296) (hr : base + (3 + 2 * n) ≤ D.safe.length) (hw : D.waits.length < 16777216) :
    Calls Try.prog 30 #[.pointer (some ⟨s, 0, none⟩), .int .i64 k, .int .u32 E, .string b] w (RunA w F s gd base n t [(SA.w k (E, b)).act base] D) := by
  have h8 := h.n8
  have hfit : ((SA.w k (E, b)).act base).fits D.safe.length := ⟨by omega, secOf_size hb⟩
  unfold RunA
  rw [acts_one]
  have her := act_err hfit
  have e0 : Act7.err ((SA.w k (E, b)).act base) D = D.writeE ((base : Int) + k) (secOf k (E, b)) := rfl
  have e1 : Act7.on ((SA.w k (E, b)).act base) D = D.write ((base : Int) + k) (secOf k (E, b)) := rfl
  rw [e0] at her
  simp only [e0, e1]
  have PK := Lib.hid (fun W => packSec hb (show k < 19 by omega) he W)
  have IX := Lib.hid (fun W => soIndex_any k (by omega) W)
  have WR : Hid (∀ W, Below w.heap.size w W → _) := fun W hW => write_any (h.disk.below hW) ((base : Int) + k) (secOf k (E, b)) hw
  have H := Lib.hid h
  have C : Hid (∀ W, Below w.heap.size w W → W.cell? ⟨s, 0, none⟩ = some (.pointer (some ⟨gd, 0, none⟩)) ∧ W.cell? ⟨s, 1, none⟩ = some (.int .i64 base)) := fun W hW => ⟨(h.below hW).cells.1, (h.below hW).cells.2.1⟩
  have b1 : (base : Int) ≤ 512 := by have := h.b5; omega
  have b2 : (k : Int) ≤ 19 := by omega
  clear h hk hb he hr hw hfit e0 e1
  generalize secOf k (E, b) = x at *
  generalize idxOf k = ix at *
  generalize D.writeE ((base : Int) + k) x = er at *
  generalize D.write ((base : Int) + k) x = D1 at *
  go_enter Try.func30, Try.ntmps30
  go_wp2_with fail
  refine (IX.out _).mono ?_
  rintro e w1 ⟨rfl, rfl⟩
  go_wp2_with fail
  refine (PK.out _).mono ?_
  rintro e w1 ⟨rfl, hb1⟩
  go_wp2_with fail
  refine (soNeed_yes _).mono ?_
  rintro e w2 ⟨rfl, rfl⟩
  go_upto_region 2 with fail
  have HB1 := Lib.hid hb1
  clear hb1
  refine' wp_region_conf 11 (.is _ :: .is _ :: .is _ :: .is _ :: .is _ :: .is _ :: .is _ :: .is _ :: .is _ :: .is _ :: .is _ :: []) (by kernel_rfl) (by kernel_rfl) (by kernel_rfl) (by kernel_rfl) rfl ?main
  case main =>
    iterate 11
      refine obs_is (fun w4 hE4 _ => ?_) ?_
      · have hb4 := below2 HB1.out ((Below.refl _ _).drew.trans hE4)
        obtain ⟨d0, d1⟩ := C.out w4 hb4
        go_wp2
        exact post_is (Below.refl _ _)
      simp only [Act.put, List.setIfInBounds_toArray, List.set_cons_zero, List.set_cons_succ]
    refine obs_end fun w3 hE3 _ => ?_
    have HB3 := Lib.hid (below2 HB1.out ((Below.refl _ _).drew.trans hE3))
    clear hE3
    change wpList _ _ _ _ _ _
    rcases her with rfl | rfl
    all_goals
      go_wp2_with fail
      refine (WR.out _ HB3.out).mono ?_
      rintro e w7 ⟨rfl, F', hd, hs⟩
      have FIN := Lib.hid ((H.out.below HB3.out).onDisk hd hs)
      have ST := Lib.hid ((Step.ofBelow (F := F) HB3.out).trans hs)
      clear hd hs
      go_wp2_with fail
      first | refine (soNeed_yes _).mono ?_ | refine (soNeed_no _).mono ?_
      rintro e w8 ⟨rfl, rfl⟩
      go_wp2
      first
      | (go_end0; exact ⟨F', rfl, FIN.out, ST.out⟩)
      | exact ⟨rfl, F', rfl, FIN.out, ST.out⟩
theorem endOf_zero : endOf 0 = .returned (.tuple #[]) := rfl
theorem endOf_four : endOf 4 = .panicked gave7 := rfl
set_option maxRecDepth 100000 in
set_option maxHeartbeats 4000000 in
theorem soPair_put (h : IsSto w F s gd D base n t) {k E : Nat} {a b : ByteArray} (hk : k + 1 < 3 + 2 * n) (ha : Body n k a) (hb : Body n (k + 1) b) (he : E < 4294967296) (hr : base + (3 + 2 * n) ≤ D.safe.length) (hw : D.waits.length + 2 < 16777216) :
    Calls Try.prog 29 #[.pointer (some ⟨s, 0, none⟩), .int .i64 k, .int .u32 E, .agg #[.string a, .string b]] w (RunA w F s gd base n t (([.w k (E, a), .w (k + 1) (E, b), .sync] : List SA).map (SA.act base)) D) := by
  have h8 := h.n8
  have fa : ((SA.w k (E, a)).act base).fits D.safe.length := ⟨by omega, secOf_size ha⟩
  have fb : ((SA.w (k + 1) (E, b)).act base).fits D.safe.length := ⟨by omega, secOf_size hb⟩
  have ea := act_err fa
  obtain ⟨l1, l2⟩ := act_len _ fa
  have P1 : Hid (∀ W, Below w.heap.size w W → _) := fun W hW => soPut_any (h.below hW) (k := k) (E := E) (b := a) (by omega) ha he hr (by omega)
  have H := Lib.hid h
  have HK := Lib.hid hk
  have HKI : Hid ((k : Int) ≤ 19) := show (k : Int) ≤ 19 by omega
  have b2 : (k : Int) ≤ 19 := by omega
  have fb1 : ((SA.w (k + 1) (E, b)).act base).fits (((SA.w k (E, a)).act base).on D).safe.length := by rw [l1]; exact fb
  have eb := act_err fb1
  obtain ⟨m1, m2⟩ := act_len _ fb1
  have es := act_err (a := .sync) (D := ((SA.w (k + 1) (E, b)).act base).on (((SA.w k (E, a)).act base).on D)) trivial
  have P2 : Hid (∀ W F', IsSto W F' s gd (((SA.w k (E, a)).act base).on D) base n t → _) := fun W F' hI => soPut_any hI (k := k + 1) (E := E) (b := b) hk hb he (by rw [l1]; exact hr) (by omega)
  have hk1 : ((k + 1 : Nat) : Int) = (k : Int) + 1 := by omega
  rw [hk1] at P2
  clear h hk ha hb he hr hw fa fb fb1 l1 l2 m1 m2 hk1 h8
  unfold RunA at P1 P2 ⊢
  simp only [List.map_cons, List.map_nil, acts_cons]
  simp only [acts_one] at P1 P2
  have hsync : SA.act base SA.sync = Act7.sync := rfl
  rw [hsync]
  generalize (SA.w k (E, a)).act base = x at *
  generalize (SA.w (k + 1) (E, b)).act base = y at *
  generalize x.err D = r1 at *
  generalize x.on D = D1 at *
  generalize y.err D1 = r2 at *
  generalize y.on D1 = D2 at *
  have SY : Hid (∀ W F', IsSto W F' s gd D2 base n t → _) := fun W F' hI => soSync_any hI
  unfold RunA at SY
  simp only [acts_one] at SY
  generalize Act7.err .sync D2 = r3 at *
  generalize Act7.on .sync D2 = D3 at *
  go_enter Try.func29, Try.ntmps29
  go_wp2_with fail
  have B0 := (Below.refl w.heap.size w).alloc (Nat.le_refl _) (.cells #[.string a, .string b] 68)
  have x0 : ∀ W, (Instr.index 68 (.agg #[.string a, .string b]) (.int .i64 0)).run Try.prog W = .ok (.string a) W := fun W => by kernel_rfl
  have x1 : ∀ W, (Instr.index 68 (.agg #[.string a, .string b]) (.int .i64 1)).run Try.prog W = .ok (.string b) W := fun W => by kernel_rfl
  refine wp_loop_rounds 3 ?_
  rw [rounds_succ]
  go_wp2_with fail
  refine (P1.out _ B0).mono ?_
  rintro e w1 ⟨F1, rfl, hi1, hs1⟩
  have I1 := Lib.hid hi1
  have S1 := Lib.hid ((Step.ofBelow (F := F) B0).trans hs1)
  clear hi1 hs1 B0
  rcases ea with rfl | rfl
  · rw [endOf_zero]
    go_wp2_with fail
    rw [rounds_succ]
    go_wp2_with fail
    refine (P2.out _ _ I1.out).mono ?_
    rintro e w2 ⟨F2, rfl, hi2, hs2⟩
    have I2 := Lib.hid hi2
    have S2 := Lib.hid (S1.out.trans hs2)
    clear hi2 hs2
    rcases eb with rfl | rfl
    · rw [endOf_zero]
      go_wp2_with fail
      rw [rounds_succ]
      go_wp2_with fail
      refine (SY.out _ _ I2.out).mono ?_
      rintro e w3 ⟨F3, rfl, hi3, hs3⟩
      have I3 := Lib.hid hi3
      have S3 := Lib.hid (S2.out.trans hs3)
      clear hi3 hs3
      rcases es with rfl | rfl
      · rw [endOf_zero]
        go_wp2
        go_end0
        exact ⟨rfl, F3, I3.out, S3.out⟩
      · rw [endOf_four]
        go_wp2
        exact ⟨rfl, rfl, F3, I3.out, S3.out⟩
    · rw [endOf_four]
      go_wp2
      exact ⟨rfl, rfl, F2, I2.out, S2.out⟩
  · rw [endOf_four]
    go_wp2
    exact ⟨rfl, rfl, F1, I1.out, S1.out⟩
end
end Go.Proofs.Ytpjkejgnnceanaa

/- Package store: what may be given up is attempted. -/
namespace Go.Proofs.Ytpjkejgnnceanaa
open Go.RowKit

set_option maxRecDepth 100000 in
theorem soCatch_panicking (p : Addr) (x : Int) (u : TypeId) (older : List PanicEntry) (w : World) (hu0 : u = 25) (hc : w.cell? p = some (.int .i64 0)) (hz : w.frozen? p = false) :
    CallsD Try.prog 46 #[.pointer (some p)] (.panicking ({ v := .iface u (.int .i64 x), recovered := false } :: older)) w fun e u' w' =>
      e = .returned (.tuple #[]) ∧ u' = .panicking ({ v := .iface u (.int .i64 x), recovered := true } :: older) ∧ w' = w.setCell p (.int .i64 x) := by
  subst hu0
  refine callsD_of_wpS Try.func46 rfl fun c₀ cs hu => ?_
  apply wpS_seq
  apply wpS_region
  simp [wpOpsS, go_sem, recoverD, hu, Try.ntmps46, Exit.thenS]
  apply wpS_seq
  apply wpS_region
  simp [wpOpsS, go_sem, Exit.thenS]
  have hta : ∀ W, (Instr.typeAssert (.iface 25 (.int .i64 x)) 20 25 false).run Try.prog W = .ok (.int .i64 x) W := fun W => by kernel_rfl
  refine wpS_cond (t := true) (by simp [Act.eval, Array.replicate]) ?_
  simp only [if_true]
  apply wpS_region
  simp [wpOpsS, go_sem, hc, hz, hta, bodyPostS, results, Try.results46]

theorem soCatch_idle (p : Addr) (w : World) :
    CallsD Try.prog 46 #[.pointer (some p)] .returning w fun e u' w' => e = .returned (.tuple #[]) ∧ u' = .returning ∧ w' = w := by
  refine callsD_of_wpS Try.func46 rfl fun c₀ cs hu => ?_
  apply wpS_seq
  apply wpS_region
  simp [wpOpsS, go_sem, recoverD, hu, Try.ntmps46, Exit.thenS]
  apply wpS_seq
  apply wpS_region
  simp [wpOpsS, go_sem, Exit.thenS]
  refine wpS_cond (t := false) (by simp [Act.eval, Array.replicate]) ?_
  simp only [Bool.false_eq_true, if_false]
  refine wpS_of_wp (wp_skip ?_)
  cases c₀
  simp_all [bodyPostS, results, Try.results46]

theorem results_cell {P : Program} {fn : Func} {q : Tmp} {tz : TypeId} (h : fn.results = #[.cell q tz]) (tmps : Array Value) (w : World) (g2 : Nat) (v : Value)
    (hq : tmps.getD q undef = .pointer (some ⟨g2, 0, none⟩)) (hz : P.underlying tz = some (.int .i64)) (hv : w.cell? ⟨g2, 0, none⟩ = some v) :
    (results fn tmps).run P w = .ok v w := by
  have hq' : tmps[q]?.getD undef = .pointer (some ⟨g2, 0, none⟩) := by simpa using hq
  have h1 : (loadVar tz ⟨g2, 0, none⟩).run P w = .ok v w := by
    simp [loadVar, isAgg, run_underlying hz, go_sem, hv]
  simp [results, h, hq', asAddr, h1]
/-- What is attempted answers its error. -/
def TryA (w : World) (F : Foot) (s gd base n t : Nat) (ls : List Act7) (D : Dk) (e : Ending) (w' : World) : Prop :=
  ∃ F', e = .returned (.int .i64 (acts ls D).2) ∧ IsSto w' F' s gd (acts ls D).1 base n t ∧ Step F F' w w'
section
variable {w : World} {F : Foot} {s gd base n t : Nat} {D : Dk} {ls : List Act7}
set_option maxRecDepth 100000 in
set_option maxHeartbeats 4000000 in
theorem soAttempt_any (h : IsSto w F s gd D base n t) (hf : ∀ a ∈ ls, a.fits D.safe.length) (g : FuncId) (first cap : Array Value) (hcf : ∀ W, (callFunc g (first ++ cap)).run Try.prog W = .ok (.enter g (first ++ cap)) W)
    (hdo : ∀ W, Below w.heap.size w W → Calls Try.prog g (first ++ cap) W (RunA W F s gd base n t ls D)) :
    Calls Try.prog 27 #[.func (.func g) first cap] w (TryA w F s gd base n t ls D) := by
  have HD := Lib.hid hdo
  have H := Lib.hid h
  have he := acts_err ls D hf
  have hmf : ∀ (fn : Fn) (first cap : Array Value) (w : World), (Instr.makeFunc fn first cap).run Try.prog w = .ok (.func fn first cap) w := fun _ _ _ _ => rfl
  have B0 := (Below.refl w.heap.size w).alloc (Nat.le_refl _) (.cells #[.int .i64 0] 25)
  have R0 := Blk.new w 25 #[.int .i64 0]
  unfold RunA at HD
  unfold TryA
  clear hdo h hf
  generalize (acts ls D).1 = D1 at *
  generalize (acts ls D).2 = er at *
  go_enter_defers Try.func27, Try.ntmps27
  go_wp2_with fail
  refine (HD.out _ B0).mono ?_
  rintro e w1 ⟨F', rfl, hi, hs⟩
  have R1 : Blk w1 w.heap.size 25 #[.int .i64 0] := (hs.block w.heap.size R0.lt (fun hF => by have := H.out.disk.lt _ hF; omega)).trans R0
  have S1 := (Step.ofBelow (F := F) B0).trans hs
  have hnF : ¬ F' w.heap.size := fun hF => by
    rcases hs.foot _ hF with h1 | h1
    · have := H.out.disk.lt _ h1; omega
    · have := R0.lt; omega
  have hns : w.heap.size ≠ s := by have := H.out.head.lt; omega
  clear R0 B0 HD
  have FIN : Hid (∀ v, IsSto (w1.setCell ⟨w.heap.size, 0, none⟩ v) F' s gd D1 base n t ∧ Step F F' w (w1.setCell ⟨w.heap.size, 0, none⟩ v)) := fun v =>
    ⟨⟨hi.disk.keep (fun b hb => heap_setCell_other w1 _ b v (fun e : b = w.heap.size => hnF (e ▸ hb))) (by simp [World.setCell]), hi.head.far (fun e => hns e.symm) v, hi.apart, hi.b5, hi.n8⟩,
     ⟨S1.os, S1.tape, S1.output, by simpa [World.setCell] using S1.size, fun b hb hF => (heap_setCell_other w1 _ b v (fun e => by have : b = w.heap.size := e; omega)).trans (S1.block b hb hF), S1.foot⟩⟩
  have c1 := R1.cell 0
  have z1 := R1.frozen 0
  simp at c1
  clear hi hs S1 H
  rcases he with rfl | rfl
  · rw [endOf_zero]
    go_wp2_with fail
    refine leaves_cons (f := 46) (args := #[.pointer (some ⟨w.heap.size, 0, none⟩)]) (by simp) (by simp [go_sem]) ?_
    refine (soCatch_idle ⟨w.heap.size, 0, none⟩ _).mono ?_
    rintro e u' w'' ⟨rfl, rfl, rfl⟩
    exact ⟨_, results_cell rfl _ _ w.heap.size (.int .i64 0) rfl Try.underlying25 ((R1.set 0 _).cell 0), F', rfl, (FIN.out _).1, (FIN.out _).2⟩
  · rw [endOf_four]
    go_wp2_with fail
    refine leaves_cons (f := 46) (args := #[.pointer (some ⟨w.heap.size, 0, none⟩)]) (by simp) (by simp [go_sem]) ?_
    refine (soCatch_panicking ⟨w.heap.size, 0, none⟩ 4 _ [] _ rfl c1 z1).mono ?_
    rintro e u' w'' ⟨rfl, rfl, rfl⟩
    exact ⟨_, results_cell rfl _ _ w.heap.size (.int .i64 4) rfl Try.underlying25 ((R1.set 0 _).cell 0), F', rfl, (FIN.out _).1, (FIN.out _).2⟩
end
end Go.Proofs.Ytpjkejgnnceanaa

/- Package store: the writes of a page, one behind another. -/
namespace Go.Proofs.Ytpjkejgnnceanaa
open Go.RowKit

def copiesSA (t : Nat) (p : Pag) : List SA := [.w 0 (t, half p.bytes 0), .w 1 (t, half p.bytes 1), .sync]
theorem writeSA_parts (base i t : Nat) (p : Pag) : (writeSA i t p).map (SA.act base) = (copiesSA t p).map (SA.act base) ++ ([(SA.w 2 (t, oneB i)).act base] ++ ([.sync] ++ (homeSA i t (half p.bytes 0) (half p.bytes 1)).map (SA.act base))) := rfl
theorem acts_chain (l1 l2 l3 l4 : List Act7) (D : Dk) : acts (l1 ++ (l2 ++ (l3 ++ l4))) D = if (acts l1 D).2 = 0 then (if (acts l2 (acts l1 D).1).2 = 0 then (if (acts l3 (acts l2 (acts l1 D).1).1).2 = 0 then acts l4 (acts l3 (acts l2 (acts l1 D).1).1).1 else ((acts l3 (acts l2 (acts l1 D).1).1).1, (acts l3 (acts l2 (acts l1 D).1).1).2)) else ((acts l2 (acts l1 D).1).1, (acts l2 (acts l1 D).1).2)) else ((acts l1 D).1, (acts l1 D).2) := by
  rw [acts_app, acts_app, acts_app]
section
variable {w : World} {F : Foot} {s gd base n t : Nat} {D : Dk}
set_option maxRecDepth 100000 in
set_option maxHeartbeats 8000000 in
theorem soWrite1_any (h : IsSto w F s gd D base n t) {i T : Nat} {p : Pag} (hi : i < n) (hp : p.Right) (hT : T < 4294967296) (hr : base + (3 + 2 * n) ≤ D.safe.length) (hw : D.waits.length + 8 < 16777216)
    {ct cs ce ci : Nat} (k1 : Blk w ct 9 #[.string p.bytes]) (k2 : Blk w cs 28 #[.pointer (some ⟨s, 0, none⟩)]) (k3 : Blk w ce 65 #[.int .u32 T]) (k4 : Blk w ci 3 #[.int .i64 i])
    (n1 : ¬ F ct) (n2 : ¬ F cs) (n3 : ¬ F ce) (n4 : ¬ F ci) :
    Calls Try.prog 28 #[.pointer (some ⟨ct, 0, none⟩), .pointer (some ⟨cs, 0, none⟩), .pointer (some ⟨ce, 0, none⟩), .pointer (some ⟨ci, 0, none⟩)] w (RunA w F s gd base n t ((writeSA i T p).map (SA.act base)) D) := by
  have h8 := h.n8
  have hz := Pag.bytes_size hp
  have z0 := half_size hz (k := 0) (by omega)
  have z1 := half_size hz (k := 1) (by omega)
  have hfit := sa_fits (σ := fun _ => none) (s := D.safe) (base := base) (n := n)
  have keepC : Hid (∀ W F', Step F F' w W → W.cell? ⟨ct, 0, none⟩ = some (.string p.bytes) ∧ W.cell? ⟨cs, 0, none⟩ = some (.pointer (some ⟨s, 0, none⟩)) ∧ W.cell? ⟨ce, 0, none⟩ = some (.int .u32 T) ∧ W.cell? ⟨ci, 0, none⟩ = some (.int .i64 i)) := fun W F' hs =>
    ⟨Blk.cell (show Blk W ct 9 #[.string p.bytes] from (hs.block ct k1.lt n1).trans k1) 0, Blk.cell (show Blk W cs 28 _ from (hs.block cs k2.lt n2).trans k2) 0,
     Blk.cell (show Blk W ce 65 _ from (hs.block ce k3.lt n3).trans k3) 0, Blk.cell (show Blk W ci 3 _ from (hs.block ci k4.lt n4).trans k4) 0⟩
  have f1 : ∀ a ∈ (copiesSA T p).map (SA.act base), a.fits D.safe.length := fun a ha => by
    simp only [copiesSA, List.map_cons, List.map_nil, List.mem_cons, List.not_mem_nil, or_false] at ha
    rcases ha with rfl | rfl | rfl
    · exact ⟨by omega, secOf_size (n := n) (k := 0) (by unfold Body; rw [if_neg (by omega)]; exact z0)⟩
    · exact ⟨by omega, secOf_size (n := n) (k := 1) (by unfold Body; rw [if_neg (by omega)]; exact z1)⟩
    · trivial
  have b2 : Body n 2 (oneB i) := by unfold Body; rw [if_pos rfl]; exact ⟨i, hi, rfl⟩
  have f2 : ((SA.w 2 (T, oneB i)).act base).fits D.safe.length := ⟨by omega, secOf_size b2⟩
  have b3 : Body n (3 + 2 * i) (half p.bytes 0) := by unfold Body; rw [if_neg (by omega)]; exact z0
  have b4 : Body n (3 + 2 * i + 1) (half p.bytes 1) := by unfold Body; rw [if_neg (by omega)]; exact z1
  have c0 : Body n 0 (half p.bytes 0) := by unfold Body; rw [if_neg (by omega)]; exact z0
  have c1 : Body n 1 (half p.bytes 1) := by unfold Body; rw [if_neg (by omega)]; exact z1
  obtain ⟨l1, m1⟩ := acts_len _ D f1
  have e1 := acts_err _ D f1
  have P1 : Hid (∀ W, Below w.heap.size w W → _) := fun W hW => soPair_put (h.below hW) (k := 0) (E := T) (by omega) c0 c1 hT hr (by omega)
  generalize hD1 : (acts ((copiesSA T p).map (SA.act base)) D).1 = D1 at *
  have f2' : ∀ a ∈ [(SA.w 2 (T, oneB i)).act base], a.fits D1.safe.length := fun a ha => by rw [l1]; simp at ha; subst ha; exact f2
  obtain ⟨l2, m2⟩ := acts_len _ D1 f2'
  have e2 := acts_err _ D1 f2'
  have P2 : Hid (∀ W F', IsSto W F' s gd D1 base n t → _) := fun W F' hI => soPut_any hI (k := 2) (E := T) (b := oneB i) (by omega) b2 hT (by rw [l1]; exact hr) (by simp [copiesSA] at m1; omega)
  generalize hD2 : (acts [(SA.w 2 (T, oneB i)).act base] D1).1 = D2 at *
  have f3 : ∀ a ∈ [Act7.sync], a.fits D2.safe.length := fun a ha => by simp at ha; subst ha; trivial
  obtain ⟨l3, m3⟩ := acts_len _ D2 f3
  have e3 := acts_err _ D2 f3
  have P3 : Hid (∀ W F', IsSto W F' s gd D2 base n t → _) := fun W F' hI => soSync_any hI
  generalize hD3 : (acts [Act7.sync] D2).1 = D3 at *
  have f4 : ∀ a ∈ (homeSA i T (half p.bytes 0) (half p.bytes 1)).map (SA.act base), a.fits D3.safe.length := fun a ha => by
    rw [l3, l2, l1]
    simp only [homeSA, List.map_cons, List.map_nil, List.mem_cons, List.not_mem_nil, or_false] at ha
    rcases ha with rfl | rfl | rfl
    · exact ⟨by omega, secOf_size b3⟩
    · exact ⟨by omega, secOf_size (k := 4 + 2 * i) (by rw [show 4 + 2 * i = 3 + 2 * i + 1 by omega]; exact b4)⟩
    · trivial
  have e4 := acts_err _ D3 f4
  have P4 : Hid (∀ W F', IsSto W F' s gd D3 base n t → _) := fun W F' hI => soPair_put hI (k := 3 + 2 * i) (E := T) (by omega) b3 b4 hT (by rw [l3, l2, l1]; exact hr) (by simp [copiesSA] at m1; simp at m2 m3; omega)
  have hk1 : 3 + 2 * i + 1 = 4 + 2 * i := by omega
  rw [hk1] at P4
  unfold RunA at P1 P2 P3 P4 ⊢
  change Hid (∀ W, Below w.heap.size w W → Calls _ _ _ _ fun e w' => ∃ F', e = endOf (acts ((copiesSA T p).map (SA.act base)) D).2 ∧ IsSto w' F' s gd (acts ((copiesSA T p).map (SA.act base)) D).1 base n t ∧ Step F F' W w') at P1
  change Hid (∀ W F', IsSto W F' s gd D3 base n t → Calls _ _ _ _ fun e w' => ∃ F'', e = endOf (acts ((homeSA i T (half p.bytes 0) (half p.bytes 1)).map (SA.act base)) D3).2 ∧ IsSto w' F'' s gd (acts ((homeSA i T (half p.bytes 0) (half p.bytes 1)).map (SA.act base)) D3).1 base n t ∧ Step F' F'' W w') at P4
  have HA : acts ((writeSA i T p).map (SA.act base)) D = if (acts ((copiesSA T p).map (SA.act base)) D).2 = 0 then (if (acts [(SA.w 2 (T, oneB i)).act base] D1).2 = 0 then (if (acts [Act7.sync] D2).2 = 0 then acts ((homeSA i T (half p.bytes 0) (half p.bytes 1)).map (SA.act base)) D3 else (D3, (acts [Act7.sync] D2).2)) else (D2, (acts [(SA.w 2 (T, oneB i)).act base] D1).2)) else (D1, (acts ((copiesSA T p).map (SA.act base)) D).2) := by
    rw [writeSA_parts]
    subst hD3 hD2 hD1
    exact acts_chain _ _ _ _ D
  rw [hD1] at P1
  rw [hD2] at P2
  rw [hD3] at P3
  generalize acts ((writeSA i T p).map (SA.act base)) D = X at *
  clear f1 f2 f2' f3 f4 l1 l2 l3 m1 m2 m3 b2 b3 b4 c0 c1 hr hw hT hp hfit hD1 hD2 hD3 k1 k2 k3 k4 n1 n2 n3 n4 z0 z1
  generalize (acts ((copiesSA T p).map (SA.act base)) D).2 = r1 at *
  generalize (acts [(SA.w 2 (T, oneB i)).act base] D1).2 = r2 at *
  generalize (acts [Act7.sync] D2).2 = r3 at *
  generalize (acts ((homeSA i T (half p.bytes 0) (half p.bytes 1)).map (SA.act base)) D3) = X4 at *
  have HX := Lib.hid HA
  clear HA
  have hsl0 : ∀ W, (Instr.slice 9 (.string p.bytes) none (some (.int .i64 112)) none).run Try.prog W = .ok (.string (half p.bytes 0)) W := fun W => by
    have := run_slice_string_h (P := Try.prog) (w := W) (t := 9) p.bytes Try.underlying9 .i64 112 (by omega) (by omega)
    simpa [half] using this
  have hsl1 : ∀ W, (Instr.slice 9 (.string p.bytes) (some (.int .i64 112)) none none).run Try.prog W = .ok (.string (half p.bytes 1)) W := fun W => by
    have := slice_from (P := Try.prog) 9 Try.underlying9 p.bytes 112 .i64 112 rfl (by omega) W
    rw [hz] at this
    exact this
  clear hz
  generalize half p.bytes 0 = ha at *
  generalize half p.bytes 1 = hb at *
  generalize p.bytes = pb at *
  go_enter Try.func28, Try.ntmps28
  go_upto_region 0 with fail
  have H := Lib.hid h
  clear h
  refine' wp_region_conf 6 (.is _ :: .is _ :: .is _ :: .is _ :: .is _ :: .ptr w.heap.size 68 #[.string ⟨#[]⟩, .string ⟨#[]⟩] :: []) (by kernel_rfl) (by kernel_rfl) (by kernel_rfl) (by kernel_rfl) rfl ?main
  case main =>
    iterate 5
      refine obs_is (fun w4 hE4 _ => ?_) ?_
      · obtain ⟨d0, d1, d2, d3⟩ := keepC.out w4 F (Step.ofBelow ((Below.refl _ _).drew.trans hE4))
        go_wp2
        exact post_is (Below.refl _ _)
      simp only [Act.put, List.setIfInBounds_toArray, List.set_cons_zero, List.set_cons_succ]
    refine obs_ptr (fun w4 hE4 _ => ?_) (fun x => ?_)
    · go_wp2
      exact ⟨_, rfl, ⟨w4.heap.size, hE4.size, rfl, Blk.new _ _ _⟩, (Below.refl _ _).alloc (Nat.le_refl _) _⟩
    simp only [Act.put, List.setIfInBounds_toArray, List.set_cons_zero, List.set_cons_succ]
    refine obs_end fun w1 hE1 hk => ?_
    obtain ⟨x, hx, rfl, hx1⟩ := hk _ (List.mem_cons_self)
    clear hk
    have B1 : Below w.heap.size w w1 := (Below.refl _ _).drew.trans hE1
    clear hE1
    refine wpList_store_row rfl 68 _ _ rfl x (#[.string ha, .string hb]) rfl rfl 68 _ hx1 (by kernel_rfl) (by simp) (by simp [Value.oneCell']) ?_
    replace hx1 := hx1.setRow #[.string ha, .string hb]
    replace B1 := below_setRow B1 (g := x) hx #[.string ha, .string hb]
    simp only [Act.put]
    generalize w1.setRow x _ = w2 at *
    have hxF : ¬ F x := fun hF => by have := H.out.disk.lt _ hF; omega
    have KC : Hid (∀ W F', Step F F' w2 W → Blk W x 68 #[.string ha, .string hb] ∧ W.cell? ⟨cs, 0, none⟩ = some (.pointer (some ⟨s, 0, none⟩)) ∧ W.cell? ⟨ce, 0, none⟩ = some (.int .u32 T) ∧ W.cell? ⟨ci, 0, none⟩ = some (.int .i64 i)) := fun W F' hs =>
      ⟨(hs.block x hx1.lt hxF).trans hx1, (keepC.out W F' ((Step.ofBelow B1).trans hs)).2⟩
    have HB1 := Lib.hid B1
    clear keepC hx1 B1 hxF hsl0 hsl1 hx
    obtain ⟨q1, d1, d2, d3⟩ := KC.out w2 F (Step.refl _ _)
    go_wp2_with (refine wpList_load_row rfl 68 _ rfl x rfl 68 _ (0, 0) _ q1 Try.underlying68 rfl (by kernel_rfl) ?_)
    refine (P1.out w2 HB1.out).mono ?_
    rintro e w3 ⟨F1, rfl, hi1, hs1⟩
    have I1 := Lib.hid hi1
    have S1 := Lib.hid hs1
    have FS : Hid (∀ W F', Step F F' w2 W → Step F F' w W) := fun W F' hs => (Step.ofBelow HB1.out).trans hs
    obtain ⟨-, d1, d2, d3⟩ := KC.out w3 F1 hs1
    clear q1 hi1 hs1 P1 HB1 H
    rcases e1.symm with rfl | rfl
    · obtain rfl : X = (D1, 4) := by rw [HX.out]; rfl
      rw [endOf_four]
      go_wp2
      exact ⟨rfl, rfl, F1, I1.out, FS.out _ _ S1.out⟩
    rw [endOf_zero]
    have hi8 : (i : Int) < 8 := by omega
    have bl := (Blk.new w3 5 (bytesV [UInt8.ofNat i]))
    have hbv : bytesV [UInt8.ofNat i] = #[.int .u8 (i : Int)] := by
      have : (UInt8.ofNat i).toNat = i := by simp; omega
      simp [bytesV, this]
    have hcv := conv_blk bl 0 1 1 (by simp) 37 5 9 Try.underlying37 Try.underlying5 Try.underlying9
    have hone : (⟨((([UInt8.ofNat i] : List UInt8).drop 0).take 1).toArray⟩ : ByteArray) = oneB i := rfl
    rw [hone] at hcv
    rw [hbv] at hcv
    clear bl hbv hone
    go_wp2_with fail
    have ba : Below w3.heap.size w3 (w3.alloc (.cells #[.int .u8 (i : Int)] 5)) := (Below.refl _ _).alloc (Nat.le_refl _) _
    refine (P2.out _ F1 (I1.out.below ba)).mono ?_
    rintro e w4 ⟨F2, rfl, hi2, hs2⟩
    have I2 := Lib.hid hi2
    have S2 := Lib.hid ((S1.out.more ba).trans hs2)
    obtain ⟨-, c1, c2, c3⟩ := KC.out w4 F2 S2.out
    clear hi2 hs2 ba hcv d1 d2 d3 P2 I1 S1
    rcases e2.symm with rfl | rfl
    · obtain rfl : X = (D2, 4) := by rw [HX.out]; rfl
      rw [endOf_four]
      go_wp2
      exact ⟨rfl, rfl, F2, I2.out, FS.out _ _ S2.out⟩
    rw [endOf_zero]
    go_wp2_with fail
    refine (P3.out _ F2 I2.out).mono ?_
    rintro e w5 ⟨F3, rfl, hi3, hs3⟩
    have I3 := Lib.hid hi3
    have S3 := Lib.hid (S2.out.trans hs3)
    clear hi3 hs3 c1 c2 c3 P3 I2 S2
    rcases e3.symm with rfl | rfl
    · obtain rfl : X = (D3, 4) := by rw [HX.out]; rfl
      rw [endOf_four]
      go_wp2
      exact ⟨rfl, rfl, F3, I3.out, FS.out _ _ S3.out⟩
    rw [endOf_zero]
    go_upto_region 4 with fail
    have HM := Lib.hid (fun W => soHomes_any i (by omega) W)
    refine' wp_region_conf 5 (.is _ :: .is _ :: .is _ :: .is _ :: .is _ :: []) (by kernel_rfl) (by kernel_rfl) (by kernel_rfl) (by kernel_rfl) rfl ?main
    case main =>
      iterate 5
        refine obs_is (fun w6 hE6 _ => ?_) ?_
        · obtain ⟨q1, c1, c2, c3⟩ := KC.out w6 F3 (S3.out.more ((Below.refl _ _).drew.trans hE6))
          go_wp2_with (first
            | (go_at_call 32; refine (HM.out _).mono ?_; rintro e w7 ⟨rfl, rfl⟩)
            | (refine wpList_load_row rfl 68 _ rfl x rfl 68 _ (0, 0) _ q1 Try.underlying68 rfl (by kernel_rfl) ?_))
          exact post_is (Below.refl _ _)
        simp only [Act.put, List.setIfInBounds_toArray, List.set_cons_zero, List.set_cons_succ]
      refine obs_end fun w6 hE6 _ => ?_
      have b6 : Below w5.heap.size w5 w6 := (Below.refl _ _).drew.trans hE6
      have I6 := Lib.hid (I3.out.below b6)
      have S6 := Lib.hid (S3.out.more b6)
      clear hE6 b6 I3 S3 KC
      change wpList _ _ _ _ _ _
      go_wp2_with fail
      refine (P4.out _ F3 I6.out).mono ?_
      rintro e w7 ⟨F4, rfl, hi4, hs4⟩
      have I7 := Lib.hid hi4
      have S7 := Lib.hid (S6.out.trans hs4)
      clear hi4 hs4 I6 S6 P4
      obtain rfl : X = X4 := by rw [HX.out]; rfl
      obtain ⟨D4, r4⟩ := X
      rcases e4 with e4 | e4
      · obtain rfl : r4 = 0 := e4
        rw [endOf_zero]
        go_wp2
        go_end0
        exact ⟨rfl, F4, I7.out, FS.out _ _ S7.out⟩
      · obtain rfl : r4 = 4 := e4
        rw [endOf_four]
        go_wp2
        exact ⟨rfl, rfl, F4, I7.out, FS.out _ _ S7.out⟩
end
end Go.Proofs.Ytpjkejgnnceanaa

/- Package store: a page is written. -/
namespace Go.Proofs.Ytpjkejgnnceanaa
open Go.RowKit

/-- The blocks of a store and its disk. -/
abbrev OfS (F : Foot) (s : Nat) : Foot := fun b => F b ∨ b = s
theorem IsSto.tick {w : World} {F : Foot} {s gd base n t : Nat} {D : Dk} (h : IsSto w F s gd D base n t) (t' : Nat) : IsSto (w.setCell ⟨s, 3, none⟩ (.int .i64 t')) F s gd D base n t' ∧ Step (OfS F s) (OfS F s) w (w.setCell ⟨s, 3, none⟩ (.int .i64 t')) :=
  ⟨⟨h.disk.keep (fun b hb => heap_setCell_other w _ b _ (fun e : b = s => h.apart (e ▸ hb))) (by simp [World.setCell]), h.head.set 3 _, h.apart, h.b5, h.n8⟩, (Step.refl _ _).set (p := ⟨s, 3, none⟩) (.inr rfl) _⟩
theorem Step.ofS {F F' : Foot} {s : Nat} {w w' : World} (h : Step F F' w w') : Step (OfS F s) (OfS F' s) w w' :=
  ⟨h.os, h.tape, h.output, h.size, fun b hb hf => h.block b hb fun e => hf (.inl e), fun b hb => hb.elim (fun e => (h.foot b e).imp .inl id) fun e => .inl (.inr e)⟩
/-- What a Write comes to: its error, the disk, the next ticket. -/
def WroteS (w : World) (F : Foot) (s gd base n t : Nat) (X : Dk × Nat) (e : Ending) (w' : World) : Prop :=
  ∃ F', e = .returned (.int .i64 X.2) ∧ IsSto w' F' s gd X.1 base n t ∧ Step (OfS F s) (OfS F' s) w w'
section
variable {w : World} {F : Foot} {s gd base n t : Nat} {D : Dk}
set_option maxRecDepth 100000 in
set_option maxHeartbeats 8000000 in
theorem soWrite_form (h : IsSto w F s gd D base n t) {i : Nat} {a : Int} {d : ByteArray} (hi : i < n) (hp : ¬ PgOk a d) :
    Calls Try.prog 13 #[.pointer (some ⟨s, 0, none⟩), .int .i64 i, .agg #[.int .i64 a, .string d]] w (WroteS w F s gd base n t (D, 3)) := by
  have HH : Hid (∀ W, Below w.heap.size w W → _) := fun W hW => soHas_any (h.below hW) i true (by rw [decide_eq_true]; exact ⟨by omega, by omega⟩)
  have HP := Lib.hid (fun W => pgPack_any a d W)
  unfold packR at HP
  rw [if_neg hp] at HP
  have H := Lib.hid h
  clear h hp
  have X0 := ((Blk.new w 28 #[.pointer (some ⟨s, 0, none⟩)]).alloc (.cells #[.int .i64 i] 3)).alloc (.cells #[.int .i64 a, .string d] 34)
  have X1 := (Blk.new (w.alloc (.cells #[.pointer (some ⟨s, 0, none⟩)] 28)) 3 #[.int .i64 i]).alloc (.cells #[.int .i64 a, .string d] 34)
  have X2 := Blk.new ((w.alloc (.cells #[.pointer (some ⟨s, 0, none⟩)] 28)).alloc (.cells #[.int .i64 i] 3)) 34 #[.int .i64 a, .string d]
  have B := (((Below.refl w.heap.size w).alloc (Nat.le_refl _) (.cells #[.pointer (some ⟨s, 0, none⟩)] 28)).alloc (by simp) (.cells #[.int .i64 i] 3)).alloc (by simp; omega) (.cells #[.int .i64 a, .string d] 34)
  simp only [World.size_alloc] at X1 X2
  go_enter Try.func13, Try.ntmps13
  go_upto_region 1 with fail
  change Code.wp _ _ _ _ (((w.alloc (.cells #[.pointer (some ⟨s, 0, none⟩)] 28)).alloc (.cells #[.int .i64 i] 3)).alloc (.cells #[.int .i64 a, .string d] 34))
  generalize ((w.alloc (.cells #[.pointer (some ⟨s, 0, none⟩)] 28)).alloc (.cells #[.int .i64 i] 3)).alloc (.cells #[.int .i64 a, .string d] 34) = w0 at *
  have c0 := X0.cell 0
  have c1 := X1.cell 0
  simp at c0 c1
  go_wp2_with fail
  refine (HH.out _ B).mono ?_
  rintro e w1 ⟨rfl, rfl⟩
  go_wp2_with (refine wpList_load_row rfl 34 _ rfl (w.heap.size + 1 + 1) rfl 34 _ (0, 0) _ X2 Try.underlying34 rfl (by kernel_rfl) ?_)
  refine (HP.out _).mono ?_
  rintro e w1 ⟨rfl, hb1⟩
  have B1 := below2 B hb1
  have B2 := B1.alloc B1.size (.cells #[.string ⟨#[]⟩] 9)
  have HB2 := Lib.hid B2
  clear X0 X1 X2 B B1 B2 hb1 c0 c1 HH HP
  go_wp2
  go_ret
  exact ⟨F, rfl, H.out.below HB2.out, (Step.ofBelow HB2.out).ofS⟩
set_option maxRecDepth 100000 in
set_option maxHeartbeats 8000000 in
theorem soWrite_ok (h : IsSto w F s gd D base n t) {i : Nat} {p : Pag} (hi : i < n) (hp : p.Right) (ht : t < 4294967296) (hr : base + (3 + 2 * n) ≤ D.safe.length) (hw : D.waits.length + 8 < 16777216) :
    Calls Try.prog 13 #[.pointer (some ⟨s, 0, none⟩), .int .i64 i, .agg #[.int .i64 p.1, .string p.2]] w (WroteS w F s gd base n (t + 1) (acts ((writeSA i t p).map (SA.act base)) D)) := by
  have HH : Hid (∀ W, Below w.heap.size w W → _) := fun W hW => soHas_any (h.below hW) i true (by rw [decide_eq_true]; exact ⟨by omega, by omega⟩)
  have HP := Lib.hid (fun W => pgPack_right hp W)
  have h8 := h.n8
  have hlt : ∀ b, b ≥ w.heap.size → ¬ F b := fun b hb hF => by have := h.disk.lt b hF; omega
  have hsl := h.head.lt
  have hfit : ∀ a ∈ (writeSA i t p).map (SA.act base), a.fits D.safe.length := fun a ha => by
    obtain ⟨q, hq, rfl⟩ := List.mem_map.1 ha
    have := writeSA_fits (t := t) hi hp q hq
    cases q with
    | w k x => exact ⟨by have := this.1; omega, secOf_size this.2⟩
    | sync => trivial
  have HA : Hid (∀ W, IsSto W F s gd D base n (t + 1) → ∀ ct cs ce ci : Nat, Blk W ct 9 #[.string p.bytes] → Blk W cs 28 #[.pointer (some ⟨s, 0, none⟩)] → Blk W ce 65 #[.int .u32 t] → Blk W ci 3 #[.int .i64 i] → ¬ F ct → ¬ F cs → ¬ F ce → ¬ F ci →
      Calls Try.prog 27 #[.func (.func 28) #[] #[.pointer (some ⟨ct, 0, none⟩), .pointer (some ⟨cs, 0, none⟩), .pointer (some ⟨ce, 0, none⟩), .pointer (some ⟨ci, 0, none⟩)]] W (TryA W F s gd base n (t + 1) ((writeSA i t p).map (SA.act base)) D)) :=
    fun W hW ct cs ce ci k1 k2 k3 k4 n1 n2 n3 n4 => soAttempt_any hW hfit _ #[] _ (fun _ => by kernel_rfl) fun W' hb =>
      soWrite1_any (hW.below hb) hi hp ht hr hw (k1.keep hb k1.lt) (k2.keep hb k2.lt) (k3.keep hb k3.lt) (k4.keep hb k4.lt) n1 n2 n3 n4
  have H := Lib.hid h
  have HLT := Lib.hid hlt
  have ht1 : IntKind.wrap .u32 (t : Int) = t := by rw [IntKind.wrap_u32]; omega
  have ht2 : IntKind.wrap .i64 ((t : Int) + 1) = (t : Int) + 1 := by rw [IntKind.wrap_i64]; omega
  obtain ⟨a, d⟩ := p
  simp only at HP HA ⊢
  generalize Pag.bytes (a, d) = pb at *
  unfold WroteS
  unfold TryA at HA
  generalize acts ((writeSA i t (a, d)).map (SA.act base)) D = X at *
  clear h hp hfit hlt hr hw ht h8
  have X0 := ((Blk.new w 28 #[.pointer (some ⟨s, 0, none⟩)]).alloc (.cells #[.int .i64 i] 3)).alloc (.cells #[.int .i64 a, .string d] 34)
  have X1 := (Blk.new (w.alloc (.cells #[.pointer (some ⟨s, 0, none⟩)] 28)) 3 #[.int .i64 i]).alloc (.cells #[.int .i64 a, .string d] 34)
  have X2 := Blk.new ((w.alloc (.cells #[.pointer (some ⟨s, 0, none⟩)] 28)).alloc (.cells #[.int .i64 i] 3)) 34 #[.int .i64 a, .string d]
  have B := (((Below.refl w.heap.size w).alloc (Nat.le_refl _) (.cells #[.pointer (some ⟨s, 0, none⟩)] 28)).alloc (by simp) (.cells #[.int .i64 i] 3)).alloc (by simp; omega) (.cells #[.int .i64 a, .string d] 34)
  simp only [World.size_alloc] at X1 X2
  go_enter Try.func13, Try.ntmps13
  go_upto_region 1 with fail
  change Code.wp _ _ _ _ (((w.alloc (.cells #[.pointer (some ⟨s, 0, none⟩)] 28)).alloc (.cells #[.int .i64 i] 3)).alloc (.cells #[.int .i64 a, .string d] 34))
  generalize ((w.alloc (.cells #[.pointer (some ⟨s, 0, none⟩)] 28)).alloc (.cells #[.int .i64 i] 3)).alloc (.cells #[.int .i64 a, .string d] 34) = w0 at *
  have c0 := X0.cell 0
  have c1 := X1.cell 0
  simp at c0 c1
  go_wp2_with fail
  refine (HH.out _ B).mono ?_
  rintro e w1 ⟨rfl, rfl⟩
  go_wp2_with (refine wpList_load_row rfl 34 _ rfl (w.heap.size + 1 + 1) rfl 34 _ (0, 0) _ X2 Try.underlying34 rfl (by kernel_rfl) ?_)
  refine (HP.out _).mono ?_
  rintro e w1 ⟨rfl, hb1⟩
  have B1 := below2 B hb1
  have Y0 := X0.keep hb1 X0.lt
  have Y1 := X1.keep hb1 X1.lt
  have B2 := B1.alloc B1.size (.cells #[.string pb] 9)
  have Z0 := Y0.alloc (.cells #[.string pb] 9)
  have Z1 := Y1.alloc (.cells #[.string pb] 9)
  have Z2 := Blk.new w1 9 #[.string pb]
  clear X0 X1 X2 c0 c1 HH HP
  go_upto_region 8 with fail
  change Code.wp _ _ _ _ (w1.alloc (.cells #[.string pb] 9))
  have hct : w.heap.size ≤ w1.heap.size := B1.size
  have hz1 : w1.heap.size < (w1.alloc (.cells #[.string pb] 9)).heap.size := Z2.lt
  clear B B1 Y0 Y1 hb1
  generalize w1.alloc (.cells #[.string pb] 9) = w2 at *
  generalize w1.heap.size = ct at *
  have I2 := H.out.below B2
  have c0 := Z0.cell 0
  have c1 := Z1.cell 0
  simp at c0 c1
  obtain ⟨-, -, -, c3⟩ := I2.cells
  have f3 := I2.head.frozen 3
  have hsx : s < w2.heap.size := Nat.lt_of_lt_of_le hsl B2.size
  have D0 := Lib.hid ((Z0.alloc (.cells #[.int .u32 t] 65)).cell 0)
  have D3 := Lib.hid (I2.below ((Below.refl _ _).alloc (Nat.le_refl _) (.cells #[.int .u32 t] 65))).cells.2.2.2
  have hsz : w.heap.size ≤ w2.heap.size := B2.size
  obtain ⟨I3, S3⟩ := I2.tick (t + 1)
  have SS0 := (Step.ofBelow (F := OfS F s) B2).trans S3
  have Z0' := Z0.far (p := ⟨s, 3, none⟩) (by show ¬ w.heap.size = s; omega) (.int .i64 (t + 1 : Nat))
  have Z1' := Z1.far (p := ⟨s, 3, none⟩) (by show ¬ w.heap.size + 1 = s; omega) (.int .i64 (t + 1 : Nat))
  have Z2' := Z2.far (p := ⟨s, 3, none⟩) (by show ¬ ct = s; omega) (.int .i64 (t + 1 : Nat))
  have K0 := Z0'.alloc (.cells #[.int .u32 t] 65)
  have K1 := Z1'.alloc (.cells #[.int .u32 t] 65)
  have K2 := Z2'.alloc (.cells #[.int .u32 t] 65)
  have K3 := Blk.new (w2.setCell ⟨s, 3, none⟩ (.int .i64 (t + 1 : Nat))) 65 #[.int .u32 t]
  rw [show (w2.setCell ⟨s, 3, none⟩ (.int .i64 (t + 1 : Nat))).heap.size = w2.heap.size by simp [World.setCell]] at K3
  have I4 := I3.below ((Below.refl _ _).alloc (Nat.le_refl _) (.cells #[.int .u32 t] 65))
  have FIN := Lib.hid (HA.out _ I4 _ _ _ _ K2 K0 K3 K1 (HLT.out _ hct) (HLT.out _ (Nat.le_refl _)) (HLT.out _ hsz) (HLT.out _ (Nat.le_succ _)))
  have SS := Lib.hid (SS0.alloc (.cells #[.int .u32 t] 65))
  clear Z0 Z1 Z2 Z0' Z1' Z2' K0 K1 K2 K3 I3 S3 SS0 I4 I2 B2 HA H HLT
  have d0 := D0.out
  have d3 := D3.out
  simp at d0
  go_wp2_with fail
  refine FIN.out.mono ?_
  rintro e w5 ⟨F', rfl, hi5, hs5⟩
  have I5 := Lib.hid hi5
  have S5 := Lib.hid (SS.out.trans hs5.ofS)
  clear hi5 hs5 FIN SS D0 D3 d0 d3 c0 c1 c3 f3
  go_wp2
  go_ret
  exact ⟨F', rfl, I5.out, S5.out⟩
end
end Go.Proofs.Ytpjkejgnnceanaa

/- Package store: two slabs beside one another. -/
namespace Go.Proofs.Ytpjkejgnnceanaa
open Go.RowKit

theorem results_row_tmp2 {P : Program} {fn : Func} {p u v : Tmp} {ty : TypeId} (h : fn.results = #[.cell p ty, .tmp u, .tmp v]) (tmps : Array Value) (w : World) (g : Nat) (t : TypeId) (cs : Array Value) (d : TypeDesc)
    (hp : tmps.getD p undef = .pointer (some ⟨g, 0, none⟩)) (hg : Blk w g t cs)
    (hu : P.underlying ty = some d) (hd : (match d with | .struct _ | .array _ _ => true | _ => false) = true) (hi : (P.info? ty).map (·.size) = some cs.size) :
    (results fn tmps).run P w = .ok (.tuple #[.agg cs, tmps.getD u undef, tmps.getD v undef]) w := by
  have hp' : tmps[p]?.getD undef = .pointer (some ⟨g, 0, none⟩) := by simpa using hp
  simp [results, h, hp', asAddr, run_loadVar_row w g t ty cs (0, 0) d hg hu hd hi]

/-- Are both there, and of one ticket? -/
def pairOk (σ : Sg) (k : Nat) : Bool := (σ k).isSome && (σ (k + 1)).isSome && (sgE σ k == sgE σ (k + 1))
section
variable {w : World} {F : Foot} {s gd base n t T : Nat} {D : Dk} {σ : Sg}
set_option maxRecDepth 100000 in
set_option maxHeartbeats 4000000 in
theorem soPair_any (h : Stands7 w F s gd D base n t T σ) (k : Nat) (hk : k + 1 < 3 + 2 * n) :
    Calls Try.prog 40 #[.pointer (some ⟨s, 0, none⟩), .int .i64 k] w fun e w' => e = .returned (.tuple #[.agg #[.string (sgB σ k), .string (sgB σ (k + 1))], .int .u32 (sgE σ k : Nat), .bool (pairOk σ k)]) ∧ Below w.heap.size w w' := by
  have H1 : Hid (∀ W, Below w.heap.size w W → _) := fun W hW => soSlab_any (h.below hW) k (by omega)
  have H2 : Hid (∀ W, Below w.heap.size w W → _) := fun W hW => soSlab_any (h.below hW) (k + 1) hk
  have hk19 : (k : Int) ≤ 19 := by have := h.sto.n8; omega
  have HE : Hid (∀ x, x = (decide ((sgE σ k : Int) = (sgE σ (k + 1) : Int))) → (sgE σ k == sgE σ (k + 1)) = x) := fun x hx => by
    subst hx
    rw [Bool.eq_iff_iff]
    simp
    omega
  unfold pairOk
  clear h hk
  have hk1 : ((k + 1 : Nat) : Int) = (k : Int) + 1 := by omega
  generalize k + 1 = k2 at *
  generalize sgE σ k = E at *
  generalize sgB σ k = b at *
  generalize sgI σ k = I at *
  generalize sgE σ k2 = E2 at *
  generalize sgB σ k2 = b2 at *
  generalize sgI σ k2 = I2 at *
  generalize (σ k).isSome = a1 at *
  generalize (σ k2).isSome = a2 at *
  rw [hk1] at H2
  clear hk1
  obtain ⟨yes, hyes⟩ : ∃ yes, yes = (a1 && a2 && (E == E2)) := ⟨_, rfl⟩
  rw [← hyes]
  have HY := Lib.hid hyes
  clear hyes
  have R0 := (Blk.new w 68 #[.string ⟨#[]⟩, .string ⟨#[]⟩])
  have B0 := (Below.refl w.heap.size w).alloc (Nat.le_refl _) (.cells #[.string ⟨#[]⟩, .string ⟨#[]⟩] 68)
  have FIN : Hid (∀ w3 x y : _, Blk w3 w.heap.size 68 #[.string ⟨#[]⟩, .string ⟨#[]⟩] → Blk w3 x 75 #[.int .u32 E, .int .u32 I, .string b] → Blk w3 y 75 #[.int .u32 E2, .int .u32 I2, .string b2] → w.heap.size ≠ x → w.heap.size ≠ y →
      ∀ W, Spare (· = w.heap.size) w3.drew W → W.cell? ⟨x, 2, none⟩ = some (.string b) ∧ W.cell? ⟨y, 2, none⟩ = some (.string b2) ∧ W.cell? ⟨x, 0, none⟩ = some (.int .u32 E) ∧ W.cell? ⟨y, 0, none⟩ = some (.int .u32 E2)) := fun w3 x y _ hx hy h1 h2 W hW =>
    ⟨(hW.keep hx.drew (fun e => h1 e.symm)).cell 2, (hW.keep hy.drew (fun e => h2 e.symm)).cell 2, (hW.keep hx.drew (fun e => h1 e.symm)).cell 0, (hW.keep hy.drew (fun e => h2 e.symm)).cell 0⟩
  go_enter Try.func40, Try.ntmps40
  go_wp2_with fail
  refine (H1.out _ B0).mono ?_
  rintro e w1 ⟨rfl, hb1⟩
  have B1 := below2 B0 hb1
  have B2 := B1.alloc B1.size (.cells #[.int .u32 E, .int .u32 I, .string b] 75)
  go_wp2_with fail
  refine (H2.out _ B2).mono ?_
  rintro e w2 ⟨rfl, hb2⟩
  go_upto_region 3 with fail
  have X1 := ((Blk.new w1 75 #[.int .u32 E, .int .u32 I, .string b]).keep hb2 (Blk.lt (Blk.new _ _ _))).alloc (.cells #[.int .u32 E2, .int .u32 I2, .string b2] 75)
  have X2 := Blk.new w2 75 #[.int .u32 E2, .int .u32 I2, .string b2]
  have R1 := R0.keep hb1 R0.lt
  have R2 := ((R1.alloc (.cells #[.int .u32 E, .int .u32 I, .string b] 75)).keep hb2 (Blk.lt (Blk.alloc R1 _))).alloc (.cells #[.int .u32 E2, .int .u32 I2, .string b2] 75)
  have B4 := below2 B2 hb2
  have B3 := B4.alloc B4.size (.cells #[.int .u32 E2, .int .u32 I2, .string b2] 75)
  change Code.wp _ _ _ _ (w2.alloc (.cells #[.int .u32 E2, .int .u32 I2, .string b2] 75))
  have hx : w.heap.size ≠ w1.heap.size := by have := R1.lt; omega
  have hy : w.heap.size ≠ w2.heap.size := by have := hb2.size; simp at this; have := R1.lt; omega
  have HROW := Lib.hid (FIN.out _ _ _ R2 X1 X2 hx hy)
  have HR2 := Lib.hid R2
  have HB3 := Lib.hid B3
  clear R0 R1 R2 B0 B1 B2 B3 B4 hb1 hb2 X1 X2 FIN H1 H2 hx hy
  generalize w2.alloc (.cells #[.int .u32 E2, .int .u32 I2, .string b2] 75) = w3 at *
  generalize w2.heap.size = y at *
  generalize w1.heap.size = x at *
  match a1, a2 with
  | false, _ =>
    obtain rfl : yes = false := by rw [HY.out]; rfl
    clear HE HY
    refine' wp_region_late 21 18 (· = w.heap.size) (fun W => Blk W w.heap.size 68 #[.string ⟨#[]⟩, .string ⟨#[]⟩]) (fun W => Blk W w.heap.size 68 #[.string b, .string b2]) (_ :: _ :: _ :: _ :: _ :: _ :: _ :: _ :: _ :: undef :: _ :: _ :: undef :: undef :: undef :: undef :: undef :: _ :: undef :: _ :: _ :: []) (by kernel_rfl) (by kernel_rfl) (by kernel_rfl) (by kernel_rfl) (by kernel_rfl) rfl HR2.out (fun W W' hb h => h.keep hb h.lt) (fun W W' hb h => h.keep hb h.lt) ?main
    case main =>
      iterate 9
        refine obsT_is (by decide) (fun w4 hE4 => ?_) ?_
        · obtain ⟨q1, q2, q3, q4⟩ := HROW.out w4 hE4
          go_wp2
          exact postT_is (Below.refl _ _)
        simp only [Act.put, List.setIfInBounds_toArray, List.set_cons_zero, List.set_cons_succ]
      iterate 1
        refine obsT_skip (by decide) (by kernel_rfl) rfl ?_
        simp only [Act.put, List.setIfInBounds_toArray, List.set_cons_zero, List.set_cons_succ]
      iterate 2
        refine obsT_is (by decide) (fun w4 hE4 => ?_) ?_
        · obtain ⟨q1, q2, q3, q4⟩ := HROW.out w4 hE4
          go_wp2
          exact postT_is (Below.refl _ _)
        simp only [Act.put, List.setIfInBounds_toArray, List.set_cons_zero, List.set_cons_succ]
      iterate 5
        refine obsT_skip (by decide) (by kernel_rfl) rfl ?_
        simp only [Act.put, List.setIfInBounds_toArray, List.set_cons_zero, List.set_cons_succ]
      iterate 1
        refine obsT_is (by decide) (fun w4 hE4 => ?_) ?_
        · obtain ⟨q1, q2, q3, q4⟩ := HROW.out w4 hE4
          go_wp2
          exact postT_is (Below.refl _ _)
        simp only [Act.put, List.setIfInBounds_toArray, List.set_cons_zero, List.set_cons_succ]
      refine obsT_store (fun w4 hE4 r4 => ?_) ?_
      · go_wp2_with (refine wpList_store_row rfl 68 _ _ rfl w.heap.size _ rfl rfl 68 _ r4 (by kernel_rfl) (by simp) (by simp [Value.oneCell']) ?_)
        exact postT_stored (Spare.setRow (S := (· = w.heap.size)) rfl _) (r4.setRow _)
      simp only [Act.put]
      iterate 2
        refine obsT_is (by decide) (fun w4 hE4 => ?_) ?_
        · obtain ⟨q1, q2, q3, q4⟩ := HROW.out w4 hE4
          go_wp2
          exact postT_is (Below.refl _ _)
        simp only [Act.put, List.setIfInBounds_toArray, List.set_cons_zero, List.set_cons_succ]
      refine obsT_end fun w5 hE5 r5 => ?_
      have B5 := hE5.below HB3.out.drew (fun b e => by rw [e]; exact Nat.le_refl _) HB3.out.drew.size
      change wpList _ _ _ _ _ _
      go_wp2
      exact bodyPost_ret (results_row_tmp2 rfl _ _ w.heap.size 68 _ _ rfl r5 Try.underlying68 rfl (by kernel_rfl)) rfl ⟨rfl, B5⟩
  | true, false =>
    obtain rfl : yes = false := by rw [HY.out]; rfl
    clear HE HY
    refine' wp_region_late 21 18 (· = w.heap.size) (fun W => Blk W w.heap.size 68 #[.string ⟨#[]⟩, .string ⟨#[]⟩]) (fun W => Blk W w.heap.size 68 #[.string b, .string b2]) (_ :: _ :: _ :: _ :: _ :: _ :: _ :: _ :: _ :: _ :: _ :: _ :: undef :: undef :: undef :: undef :: undef :: _ :: undef :: _ :: _ :: []) (by kernel_rfl) (by kernel_rfl) (by kernel_rfl) (by kernel_rfl) (by kernel_rfl) rfl HR2.out (fun W W' hb h => h.keep hb h.lt) (fun W W' hb h => h.keep hb h.lt) ?main
    case main =>
      iterate 12
        refine obsT_is (by decide) (fun w4 hE4 => ?_) ?_
        · obtain ⟨q1, q2, q3, q4⟩ := HROW.out w4 hE4
          go_wp2
          exact postT_is (Below.refl _ _)
        simp only [Act.put, List.setIfInBounds_toArray, List.set_cons_zero, List.set_cons_succ]
      iterate 5
        refine obsT_skip (by decide) (by kernel_rfl) rfl ?_
        simp only [Act.put, List.setIfInBounds_toArray, List.set_cons_zero, List.set_cons_succ]
      iterate 1
        refine obsT_is (by decide) (fun w4 hE4 => ?_) ?_
        · obtain ⟨q1, q2, q3, q4⟩ := HROW.out w4 hE4
          go_wp2
          exact postT_is (Below.refl _ _)
        simp only [Act.put, List.setIfInBounds_toArray, List.set_cons_zero, List.set_cons_succ]
      refine obsT_store (fun w4 hE4 r4 => ?_) ?_
      · go_wp2_with (refine wpList_store_row rfl 68 _ _ rfl w.heap.size _ rfl rfl 68 _ r4 (by kernel_rfl) (by simp) (by simp [Value.oneCell']) ?_)
        exact postT_stored (Spare.setRow (S := (· = w.heap.size)) rfl _) (r4.setRow _)
      simp only [Act.put]
      iterate 2
        refine obsT_is (by decide) (fun w4 hE4 => ?_) ?_
        · obtain ⟨q1, q2, q3, q4⟩ := HROW.out w4 hE4
          go_wp2
          exact postT_is (Below.refl _ _)
        simp only [Act.put, List.setIfInBounds_toArray, List.set_cons_zero, List.set_cons_succ]
      refine obsT_end fun w5 hE5 r5 => ?_
      have B5 := hE5.below HB3.out.drew (fun b e => by rw [e]; exact Nat.le_refl _) HB3.out.drew.size
      change wpList _ _ _ _ _ _
      go_wp2
      exact bodyPost_ret (results_row_tmp2 rfl _ _ w.heap.size 68 _ _ rfl r5 Try.underlying68 rfl (by kernel_rfl)) rfl ⟨rfl, B5⟩
  | true, true =>
    obtain rfl : yes = decide ((E : Int) = (E2 : Int)) := by rw [HY.out, HE.out _ rfl]; rfl
    clear HE HY
    refine' wp_region_late 21 18 (· = w.heap.size) (fun W => Blk W w.heap.size 68 #[.string ⟨#[]⟩, .string ⟨#[]⟩]) (fun W => Blk W w.heap.size 68 #[.string b, .string b2]) (_ :: _ :: _ :: _ :: _ :: _ :: _ :: _ :: _ :: _ :: _ :: _ :: _ :: _ :: _ :: _ :: _ :: _ :: undef :: _ :: _ :: []) (by kernel_rfl) (by kernel_rfl) (by kernel_rfl) (by kernel_rfl) (by kernel_rfl) rfl HR2.out (fun W W' hb h => h.keep hb h.lt) (fun W W' hb h => h.keep hb h.lt) ?main
    case main =>
      iterate 18
        refine obsT_is (by decide) (fun w4 hE4 => ?_) ?_
        · obtain ⟨q1, q2, q3, q4⟩ := HROW.out w4 hE4
          go_wp2
          exact postT_is (Below.refl _ _)
        simp only [Act.put, List.setIfInBounds_toArray, List.set_cons_zero, List.set_cons_succ]
      refine obsT_store (fun w4 hE4 r4 => ?_) ?_
      · go_wp2_with (refine wpList_store_row rfl 68 _ _ rfl w.heap.size _ rfl rfl 68 _ r4 (by kernel_rfl) (by simp) (by simp [Value.oneCell']) ?_)
        exact postT_stored (Spare.setRow (S := (· = w.heap.size)) rfl _) (r4.setRow _)
      simp only [Act.put]
      iterate 2
        refine obsT_is (by decide) (fun w4 hE4 => ?_) ?_
        · obtain ⟨q1, q2, q3, q4⟩ := HROW.out w4 hE4
          go_wp2
          exact postT_is (Below.refl _ _)
        simp only [Act.put, List.setIfInBounds_toArray, List.set_cons_zero, List.set_cons_succ]
      refine obsT_end fun w5 hE5 r5 => ?_
      have B5 := hE5.below HB3.out.drew (fun b e => by rw [e]; exact Nat.le_refl _) HB3.out.drew.size
      change wpList _ _ _ _ _ _
      go_wp2
      exact bodyPost_ret (results_row_tmp2 rfl _ _ w.heap.size 68 _ _ rfl r5 Try.underlying68 rfl (by kernel_rfl)) rfl ⟨rfl, B5⟩
end
end Go.Proofs.Ytpjkejgnnceanaa
