/- Masters as plain data: two sectors of a disk, read and written in turns; what a crash amid a Write leaves. What a sector says is a coder (Cd): the slab's part is given later. Nothing of the program is imported. -/
import Derived.Test.YtbjpnkjddfpmpaaDk
namespace Go.Proofs.Ytbjpnkjddfpmpaa

/-- A master: Check and Low. -/
structure Ms where
  check : Int
  low : Int
  deriving DecidableEq
namespace Ms
def none : Ms := ⟨0, 1⟩
def May (m : Ms) : Prop := 0 ≤ m.check ∧ m.check ≤ 2147483647 ∧ 1 ≤ m.low ∧ m.low ≤ 2147483647
instance (m : Ms) : Decidable m.May := inferInstanceAs (Decidable (_ ∧ _))
end Ms
/-- What a sector says of a master, and how a master is laid into one. -/
structure Cd where
  enc : Nat → Ms → ByteArray
  dec : ByteArray → Option (Nat × Ms)
  size : ∀ t m, (enc t m).size = 128
  back : ∀ t m, t < 4294967296 → m.May → dec (enc t m) = some (t, m)
  zero : dec zero128 = Option.none
/-- Of two the one with the greater ticket; the first one, if they are the same. -/
def best : Option (Nat × Ms) → Option (Nat × Ms) → Nat × Ms
  | .none, .none => (0, Ms.none)
  | .some x, .none => x
  | .none, .some y => y
  | .some x, .some y => if x.1 < y.1 then y else x
namespace Cd
variable (c : Cd)
/-- Both sectors are on the disk. -/
def fits (D : Dk) (b : Int) : Prop := 0 ≤ b ∧ b + 1 < D.safe.length
instance (D : Dk) (b : Int) : Decidable (fits D b) := inferInstanceAs (Decidable (_ ∧ _))
def side (b : Int) (t : Nat) : Int := b + (t % 2 : Nat)
def writeE (D : Dk) (b : Int) (t : Nat) (m : Ms) : Nat := if m.May ∧ fits D b then if D.bears then (D.write (side b t) (c.enc t m)).syncE else 4 else 1
def write (D : Dk) (b : Int) (t : Nat) (m : Ms) : Dk := if m.May ∧ fits D b then if D.bears then (D.write (side b t) (c.enc t m)).sync else D.write (side b t) (c.enc t m) else D
def readE (D : Dk) (b : Int) : Nat := if fits D b then if D.gone then 4 else 0 else 1
/-- What is read where nothing is wrong. -/
def rd (D : Dk) (b : Int) : Nat × Ms := best (c.dec (D.at_ b)) (c.dec (D.at_ (b + 1)))
/-- What is read at all: behind an error, nothing. -/
def read (D : Dk) (b : Int) : Nat × Ms := if readE D b = 0 then c.rd D b else (0, ⟨0, 0⟩)

theorem at_has {D : Dk} {b : Int} (h : fits D b) (t : Nat) : D.has (side b t) := by
  have h0 := h.1
  have h1 := h.2
  unfold side
  constructor <;> omega
theorem writeE_disk {D : Dk} {b : Int} {t : Nat} {m : Ms} (h : fits D b) : D.writeE (side b t) (c.enc t m) = if D.bears then 0 else 4 := by
  unfold Dk.writeE
  rw [if_pos (at_has h t), if_pos (c.size t m)]

/-- A disk between calls: nothing waits, the power is there, no fuse. -/
structure Rest (D : Dk) : Prop where
  waits : D.waits = []
  gone : D.gone = false
  fuse : D.fuse = none
theorem Rest.new (n : Nat) : Rest (Dk.new n) := ⟨rfl, rfl, rfl⟩
theorem Rest.eta {D : Dk} (h : Rest D) : D = ⟨D.safe, [], false, none⟩ := by
  obtain ⟨s, w, g, f⟩ := D
  obtain ⟨h1, h2, h3⟩ := h
  simp only at h1 h2 h3
  subst h1; subst h2; subst h3
  rfl
theorem Rest.at_ {D : Dk} (h : Rest D) (i : Int) : D.at_ i = D.safe.getD i.toNat zero128 := by
  unfold Dk.at_
  rw [h.waits, lastOf_nil]
  rfl
theorem Rest.read {D : Dk} (h : Rest D) {b : Int} (hf : fits D b) : readE D b = 0 ∧ c.read D b = c.rd D b := by
  have : readE D b = 0 := by unfold readE; rw [if_pos hf, if_neg (by rw [h.gone]; simp)]
  exact ⟨this, by unfold Cd.read; rw [if_pos this]⟩
theorem Rest.sector {D : Dk} (h : Rest D) {i : Int} (hi : D.has i) : D.reachE i = 0 ∧ D.read i = D.safe.getD i.toNat zero128 := by
  have : D.reachE i = 0 := by unfold Dk.reachE; rw [if_neg (by rw [h.gone]; simp), if_pos hi]
  exact ⟨this, by unfold Dk.read; rw [if_pos this, h.at_]⟩

/-- The sectors b and b + 1 as they would be read. -/
def sec (D : Dk) (b : Int) (i : Nat) : ByteArray := D.safe.getD (b.toNat + i) zero128
theorem Rest.rd {D : Dk} (h : Rest D) {b : Int} (hb : 0 ≤ b) : c.rd D b = best (c.dec (sec D b 0)) (c.dec (sec D b 1)) := by
  unfold Cd.rd
  rw [h.at_, h.at_]
  unfold sec
  rw [show (b + 1).toNat = b.toNat + 1 by omega]
  rfl
/-- Tickets up to k; each in its own sector. -/
structure Mst (D : Dk) (b : Int) (k : Nat) : Prop where
  rest : Rest D
  fit : fits D b
  own : ∀ i, i < 2 → ∀ x, c.dec (sec D b i) = some x → x.1 % 2 = i ∧ x.1 ≤ k
theorem Mst.new {n : Nat} {b : Int} (h0 : 0 ≤ b) (h1 : b + 1 < n) : c.Mst (Dk.new n) b 0 where
  rest := Rest.new n
  fit := ⟨h0, by simpa [Dk.new] using h1⟩
  own := fun i hi x hx => by
    have : sec (Dk.new n) b i = zero128 := by
      unfold sec Dk.new
      simp only [List.getD_eq_getElem?_getD, List.getElem?_replicate]
      split <;> rfl
    rw [this, c.zero] at hx
    cases hx
theorem rd_new {n : Nat} {b : Int} (h0 : 0 ≤ b) : c.rd (Dk.new n) b = (0, Ms.none) := by
  rw [(Rest.new n).rd c h0]
  have : ∀ i, sec (Dk.new n) b i = zero128 := fun i => by
    unfold sec Dk.new
    simp only [List.getD_eq_getElem?_getD, List.getElem?_replicate]
    split <;> rfl
  rw [this, this, c.zero]
  rfl
theorem Mst.mono {D : Dk} {b : Int} {k l : Nat} (h : c.Mst D b k) (hk : k ≤ l) : c.Mst D b l :=
  ⟨h.rest, h.fit, fun i hi x hx => ⟨(h.own i hi x hx).1, by have := (h.own i hi x hx).2; omega⟩⟩
theorem Mst.le {D : Dk} {b : Int} {k : Nat} (h : c.Mst D b k) : (c.rd D b).1 ≤ k := by
  rw [h.rest.rd c h.fit.1]
  have h0 := h.own 0 (by omega)
  have h1 := h.own 1 (by omega)
  cases e0 : c.dec (sec D b 0) with
  | none => cases e1 : c.dec (sec D b 1) with
    | none => simp [best]
    | some y => exact (h1 y e1).2
  | some x => cases e1 : c.dec (sec D b 1) with
    | none => exact (h0 x e0).2
    | some y =>
      unfold best
      simp only
      split
      · exact (h1 y e1).2
      · exact (h0 x e0).2
/-- A disk at rest whose sector of the next ticket says nothing any more, or the next master. -/
def putAt (D : Dk) (b : Int) (t : Nat) (s : ByteArray) : Dk := ⟨D.safe.set (side b t).toNat s, [], false, none⟩
theorem sec_putAt {D : Dk} {b : Int} (h : fits D b) (t i : Nat) (hi : i < 2) (s : ByteArray) : sec (putAt D b t s) b i = if i = t % 2 then s else sec D b i := by
  have h0 := h.1
  have h1 := h.2
  unfold sec putAt side
  simp only [List.getD_eq_getElem?_getD, List.getElem?_set]
  by_cases g : i = t % 2
  · rw [if_pos (by omega), if_pos g, if_pos (by omega)]
    rfl
  · rw [if_neg (by omega), if_neg g]
theorem putAt_fits {D : Dk} {b : Int} (h : fits D b) (t : Nat) (s : ByteArray) : fits (putAt D b t s) b := ⟨h.1, by simp only [putAt, List.length_set]; exact h.2⟩
theorem Mst.put {D : Dk} {b : Int} {k : Nat} (h : c.Mst D b k) {m : Ms} (hm : m.May) (hk : k + 1 < 4294967296) :
    c.Mst (putAt D b ((c.rd D b).1 + 1) (c.enc ((c.rd D b).1 + 1) m)) b (k + 1) ∧ c.rd (putAt D b ((c.rd D b).1 + 1) (c.enc ((c.rd D b).1 + 1) m)) b = ((c.rd D b).1 + 1, m) := by
  have hle := h.le c
  have hb := c.back ((c.rd D b).1 + 1) m (by omega) hm
  have hr := h.rest.rd c h.fit.1
  generalize ht : (c.rd D b).1 = t at *
  have hR : Rest (putAt D b (t + 1) (c.enc (t + 1) m)) := ⟨rfl, rfl, rfl⟩
  refine ⟨⟨hR, putAt_fits h.fit _ _, fun i hi x hx => ?_⟩, ?_⟩
  · rw [sec_putAt h.fit _ _ hi] at hx
    split at hx
    · rename_i g
      rw [hb] at hx
      have := Option.some.inj hx
      subst this
      exact ⟨g.symm, by simp only; omega⟩
    · have := h.own i hi x hx
      exact ⟨this.1, by omega⟩
  · rw [hR.rd c h.fit.1, sec_putAt h.fit _ _ (by omega), sec_putAt h.fit _ _ (by omega)]
    rw [hr] at ht
    have h0 := h.own 0 (by omega)
    have h1 := h.own 1 (by omega)
    rcases Nat.mod_two_eq_zero_or_one (t + 1) with g | g
    · rw [g, if_pos rfl, if_neg (by omega), hb]
      cases e1 : c.dec (sec D b 1) with
      | none => rfl
      | some y =>
        have : y.1 ≤ t := by
          rw [e1] at ht
          cases e0 : c.dec (sec D b 0) with
          | none => rw [e0] at ht; simp only [best] at ht; omega
          | some x => rw [e0] at ht; simp only [best] at ht; split at ht <;> omega
        unfold best
        simp only
        rw [if_neg (by omega)]
    · rw [g, if_neg (by omega), if_pos rfl, hb]
      cases e0 : c.dec (sec D b 0) with
      | none => rfl
      | some x =>
        have : x.1 ≤ t := by
          rw [e0] at ht
          cases e1 : c.dec (sec D b 1) with
          | none => rw [e1] at ht; simp only [best] at ht; omega
          | some y => rw [e1] at ht; simp only [best] at ht; split at ht <;> omega
        unfold best
        simp only
        rw [if_pos (by omega)]
theorem Mst.lost {D : Dk} {b : Int} {k : Nat} (h : c.Mst D b k) :
    c.Mst (putAt D b ((c.rd D b).1 + 1) zero128) b k ∧ c.rd (putAt D b ((c.rd D b).1 + 1) zero128) b = c.rd D b := by
  have hr := h.rest.rd c h.fit.1
  generalize ht : (c.rd D b).1 = t at *
  have hR : Rest (putAt D b (t + 1) zero128) := ⟨rfl, rfl, rfl⟩
  have h0 := h.own 0 (by omega)
  have h1 := h.own 1 (by omega)
  refine ⟨⟨hR, putAt_fits h.fit _ _, fun i hi x hx => ?_⟩, ?_⟩
  · rw [sec_putAt h.fit _ _ hi] at hx
    split at hx
    · rw [c.zero] at hx; cases hx
    · exact h.own i hi x hx
  · rw [hR.rd c h.fit.1, sec_putAt h.fit _ _ (by omega), sec_putAt h.fit _ _ (by omega), hr]
    rw [hr] at ht
    rcases Nat.mod_two_eq_zero_or_one (t + 1) with g | g
    · rw [g, if_pos rfl, if_neg (by omega), c.zero]
      cases e0 : c.dec (sec D b 0) with
      | none => rfl
      | some x =>
        have hx := h0 x e0
        cases e1 : c.dec (sec D b 1) with
        | none => rw [e0, e1] at ht; simp only [best] at ht; omega
        | some y =>
          rw [e0, e1] at ht
          simp only [best] at ht ⊢
          split at ht
          · rw [if_pos (by assumption)]
          · omega
    · rw [g, if_neg (by omega), if_pos rfl, c.zero]
      cases e1 : c.dec (sec D b 1) with
      | none => rfl
      | some y =>
        have hy := h1 y e1
        cases e0 : c.dec (sec D b 0) with
        | none => rw [e0, e1] at ht; simp only [best] at ht; omega
        | some x =>
          rw [e0, e1] at ht
          simp only [best] at ht ⊢
          split at ht
          · omega
          · rw [if_neg (by assumption)]
/-- At rest a write is borne whole. -/
theorem Rest.write {D : Dk} (h : Rest D) {b : Int} (hf : fits D b) (t : Nat) {m : Ms} (hm : m.May) :
    c.writeE D b t m = 0 ∧ c.write D b t m = putAt D b t (c.enc t m) := by
  have he := h.eta
  have hh := at_has hf t
  have hl : (side b t).toNat < D.safe.length := by have := hh.1; have := hh.2; omega
  have hb : D.bears = true := by unfold Dk.bears; rw [h.gone, h.fuse]; rfl
  have hw : D.write (side b t) (c.enc t m) = ⟨D.safe, [((side b t).toNat, c.enc t m)], false, none⟩ := by
    unfold Dk.write
    rw [if_pos hh, if_pos (c.size t m), if_pos hb]
    unfold Dk.burn
    rw [if_pos hb, h.waits, h.fuse, h.gone]
    rfl
  constructor
  · unfold Cd.writeE
    rw [if_pos ⟨hm, hf⟩, if_pos hb, hw]
    rfl
  · unfold Cd.write
    rw [if_pos ⟨hm, hf⟩, if_pos hb, hw]
    rfl
/-- What a write leaves on a disk with a fuse, behind the crash that follows it. -/
theorem Rest.crashed {D : Dk} (h : Rest D) {b : Int} (hf : fits D b) (t f : Nat) {m : Ms} (hm : m.May) (p : List UInt8) :
    ((c.writeE (D.arm f) b t m = 4 ∧ ((c.write (D.arm f) b t m).crash p = D ∨ (c.write (D.arm f) b t m).crash p = putAt D b t (c.enc t m) ∨ (c.write (D.arm f) b t m).crash p = putAt D b t zero128)) ∨
      (c.writeE (D.arm f) b t m = 0 ∧ (c.write (D.arm f) b t m).crash p = putAt D b t (c.enc t m))) := by
  have he := h.eta
  have hh := at_has hf t
  generalize hs : D.safe = s at *
  subst he
  have ha : Dk.arm ⟨s, [], false, none⟩ f = ⟨s, [], false, some f⟩ := by simp [Dk.arm]
  have hfa : fits ⟨s, [], false, some f⟩ b := hf
  have hha : Dk.has ⟨s, [], false, some f⟩ (side b t) := hh
  rw [ha]
  unfold Cd.writeE Cd.write
  have hmf : m.May ∧ fits ⟨s, [], false, some f⟩ b := ⟨hm, hfa⟩
  simp only [if_pos hmf]
  match f with
  | 0 =>
    refine .inl ⟨by simp [Dk.bears], .inl ?_⟩
    rw [if_neg (by simp [Dk.bears])]
    unfold Dk.write
    rw [if_pos hha, if_pos (c.size t m), if_neg (by simp [Dk.bears])]
    simp [Dk.burn, Dk.bears, Dk.crash, Dk.settled, settleTo]
  | 1 =>
    have hb : Dk.bears ⟨s, [], false, some 1⟩ = true := rfl
    have hw : Dk.write ⟨s, [], false, some 1⟩ (side b t) (c.enc t m) = ⟨s, [((side b t).toNat, c.enc t m)], false, some 0⟩ := by
      unfold Dk.write
      rw [if_pos hha, if_pos (c.size t m), if_pos hb]
      unfold Dk.burn
      rw [if_pos hb]
      rfl
    simp only [if_pos hb, hw]
    refine .inl ⟨rfl, ?_⟩
    have : (Dk.sync ⟨s, [((side b t).toNat, c.enc t m)], false, some 0⟩).crash p = ⟨settleOne (fate p 0) ((side b t).toNat, c.enc t m) s, [], false, none⟩ := rfl
    rw [this]
    unfold settleOne
    split
    · exact .inr (.inl rfl)
    · split
      · exact .inr (.inr rfl)
      · exact .inl rfl
  | n + 2 =>
    have hb : Dk.bears ⟨s, [], false, some (n + 2)⟩ = true := by simp [Dk.bears]
    have hw : Dk.write ⟨s, [], false, some (n + 2)⟩ (side b t) (c.enc t m) = ⟨s, [((side b t).toNat, c.enc t m)], false, some (n + 1)⟩ := by
      unfold Dk.write
      rw [if_pos hha, if_pos (c.size t m), if_pos hb]
      unfold Dk.burn
      rw [if_pos hb]
      rfl
    simp only [if_pos hb, hw]
    refine .inr ⟨by simp [Dk.syncE, Dk.bears], ?_⟩
    have hc : Dk.bears ⟨s, [((side b t).toNat, c.enc t m)], false, some (n + 1)⟩ = true := by simp [Dk.bears]
    unfold Dk.sync
    rw [if_pos hc]
    simp [Dk.crash, Dk.settled, settleTo, settleOne, putAt]
/-- MasterOne's step without a crash. -/
theorem Mst.write {D : Dk} {b : Int} {k : Nat} (h : c.Mst D b k) {m : Ms} (hm : m.May) (hk : k + 1 < 4294967296) :
    c.writeE D b ((c.rd D b).1 + 1) m = 0 ∧ c.Mst (c.write D b ((c.rd D b).1 + 1) m) b (k + 1) ∧ c.rd (c.write D b ((c.rd D b).1 + 1) m) b = ((c.rd D b).1 + 1, m) := by
  obtain ⟨h1, h2⟩ := h.rest.write c h.fit ((c.rd D b).1 + 1) hm
  rw [h2]
  exact ⟨h1, h.put c hm hk⟩
/-- MasterOne's step with a crash: the one ahead of it, or the one that was being written. -/
theorem Mst.crashed {D : Dk} {b : Int} {k : Nat} (h : c.Mst D b k) {m : Ms} (hm : m.May) (hk : k + 1 < 4294967296) (f : Nat) (p : List UInt8) :
    c.Mst ((c.write (D.arm f) b ((c.rd D b).1 + 1) m).crash p) b (k + 1) ∧
    (c.rd ((c.write (D.arm f) b ((c.rd D b).1 + 1) m).crash p) b = ((c.rd D b).1 + 1, m) ∨
      c.writeE (D.arm f) b ((c.rd D b).1 + 1) m ≠ 0 ∧ c.rd ((c.write (D.arm f) b ((c.rd D b).1 + 1) m).crash p) b = c.rd D b) := by
  obtain ⟨p1, p2⟩ := h.put c hm hk
  obtain ⟨l1, l2⟩ := h.lost c
  rcases h.rest.crashed c h.fit ((c.rd D b).1 + 1) f hm p with ⟨he, hd | hd | hd⟩ | ⟨he, hd⟩ <;> rw [hd]
  · exact ⟨h.mono c (by omega), .inr ⟨by omega, rfl⟩⟩
  · exact ⟨p1, .inl p2⟩
  · exact ⟨l1.mono c (by omega), .inr ⟨by omega, l2⟩⟩
  · exact ⟨p1, .inl p2⟩
/-- MasterTurns: the other sector is left alone. -/
theorem Rest.other {D : Dk} (h : Rest D) {b : Int} (hf : fits D b) (t : Nat) {m : Ms} (hm : m.May) : sec (c.write D b t m) b ((t + 1) % 2) = sec D b ((t + 1) % 2) := by
  rw [(h.write c hf t hm).2, sec_putAt hf _ _ (by omega), if_neg (by omega)]
/-- MasterLost: a sector is lost. -/
theorem Rest.lose {D : Dk} (h : Rest D) {b : Int} (hf : fits D b) (i : Nat) : D.reachE (side b i) = 0 ∧ D.lose (side b i) = putAt D b i zero128 := by
  have hh := at_has hf i
  have : D.reachE (side b i) = 0 := (h.sector hh).1
  refine ⟨this, ?_⟩
  unfold Dk.lose
  rw [if_pos this]
  have he := h.eta
  generalize hs : D.safe = s at *
  subst he
  rfl
theorem rd_putAt {D : Dk} {b : Int} (hf : fits D b) (t : Nat) (s : ByteArray) : c.rd (putAt D b t s) b = best (c.dec (if 0 = t % 2 then s else sec D b 0)) (c.dec (if 1 = t % 2 then s else sec D b 1)) := by
  rw [Rest.rd c ⟨rfl, rfl, rfl⟩ hf.1, sec_putAt hf _ _ (by omega), sec_putAt hf _ _ (by omega)]
/-- The two masters of MasterLost: 'two' has a with the ticket 1 and b with the ticket 2. -/
theorem lost_first {D : Dk} {b : Int} (hf : fits D b) {m n : Ms} (hm : m.May) : c.rd (putAt (putAt (putAt D b 1 (c.enc 1 m)) b 2 (c.enc 2 n)) b 0 zero128) b = (1, m) := by
  have f1 := putAt_fits hf 1 (c.enc 1 m)
  have f2 := putAt_fits f1 2 (c.enc 2 n)
  rw [rd_putAt c f2, sec_putAt f1 _ _ (by omega), sec_putAt f1 _ _ (by omega), sec_putAt hf _ _ (by omega), sec_putAt hf _ _ (by omega)]
  simp only [Nat.reduceMod, if_true, if_neg (show ¬ (1 = 0) by decide), if_neg (show ¬ (0 = 1) by decide), c.zero, c.back 1 m (by omega) hm]
  rfl
theorem lost_second {D : Dk} {b : Int} (hf : fits D b) {m n : Ms} (hn : n.May) : c.rd (putAt (putAt (putAt D b 1 (c.enc 1 m)) b 2 (c.enc 2 n)) b 1 zero128) b = (2, n) := by
  have f1 := putAt_fits hf 1 (c.enc 1 m)
  have f2 := putAt_fits f1 2 (c.enc 2 n)
  rw [rd_putAt c f2, sec_putAt f1 _ _ (by omega), sec_putAt f1 _ _ (by omega), sec_putAt hf _ _ (by omega), sec_putAt hf _ _ (by omega)]
  simp only [Nat.reduceMod, if_true, if_neg (show ¬ (1 = 0) by decide), if_neg (show ¬ (0 = 1) by decide), c.zero, c.back 2 n (by omega) hn]
  rfl
theorem lost_both {D : Dk} {b : Int} (hf : fits D b) (i : Nat) (hi : i < 2) : c.rd (putAt (putAt D b i zero128) b (1 - i) zero128) b = (0, Ms.none) := by
  have f1 := putAt_fits hf i zero128
  rw [rd_putAt c f1, sec_putAt hf _ _ (by omega), sec_putAt hf _ _ (by omega)]
  match i, hi with
  | 0, _ => simp [c.zero, best]
  | 1, _ => simp [c.zero, best]
end Cd
end Go.Proofs.Ytbjpnkjddfpmpaa
