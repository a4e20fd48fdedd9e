/- A master's sector through slab: the coder of MaA, with the slab's parts; what unpack tells of a sector's master. -/
import Derived.Test.YtbjpnkjddfpmpaaSlabGm
import Derived.Test.YtbjpnkjddfpmpaaMaA
namespace Go.Proofs.Ytbjpnkjddfpmpaa

/-- Eight bytes: Check and Low, the highest first. -/
def bodyM (m : Ms) : ByteArray := ⟨(be4 m.check.toNat ++ be4 m.low.toNat).toArray⟩
theorem bodyM_data (m : Ms) : (bodyM m).data.toList = be4 m.check.toNat ++ be4 m.low.toNat := rfl
theorem bodyM_size (m : Ms) : (bodyM m).size = 8 := by rw [← size_bytes, bodyM_data]; simp [be4]
/-- The master that eight bytes tell. -/
def tellM (b : ByteArray) : Ms := ⟨num4 b.data.toList, num4 (b.data.toList.drop 4)⟩
theorem tellM_bodyM {m : Ms} (h : m.May) : tellM (bodyM m) = m := by
  obtain ⟨c, l⟩ := m
  obtain ⟨h1, h2, h3, h4⟩ := h
  simp only at h1 h2 h3 h4
  unfold tellM
  rw [bodyM_data]
  have e : List.drop 4 (be4 c.toNat ++ be4 l.toNat) = be4 l.toNat ++ [] := by simp [be4]
  simp only
  rw [num4_be4 _ (by omega), e, num4_be4 _ (by omega)]
  congr 1 <;> omega
instance (s : ByteArray) : Decidable (IsSlab s) := inferInstanceAs (Decidable (_ ∧ _ ∧ _ ∧ _))
/-- Does a sector hold a master, as Write would write it? -/
def Holds12 (s : ByteArray) : Prop := IsSlab s ∧ partI s = 0 ∧ (partB s).size = 8 ∧ (tellM (partB s)).May
instance (s : ByteArray) : Decidable (Holds12 s) := inferInstanceAs (Decidable (_ ∧ _ ∧ _ ∧ _))
def encM (t : Nat) (m : Ms) : ByteArray := packed t 0 (bodyM m)
def decM (s : ByteArray) : Option (Nat × Ms) := if Holds12 s then some (partE s, tellM (partB s)) else none
theorem encM_size (t : Nat) (m : Ms) : (encM t m).size = 128 := packed_size (by rw [bodyM_size]; decide)
theorem encM_holds {t : Nat} {m : Ms} (ht : t < 4294967296) (hm : m.May) : Holds12 (encM t m) := by
  have hb : (bodyM m).size ≤ 112 := by rw [bodyM_size]; decide
  have hB : partB (encM t m) = bodyM m := partB_packed hb
  exact ⟨isSlab_packed ht (by decide) hb, partI_packed (by decide) hb, by rw [hB, bodyM_size], by rw [hB, tellM_bodyM hm]; exact hm⟩
theorem decM_encM (t : Nat) (m : Ms) (ht : t < 4294967296) (hm : m.May) : decM (encM t m) = some (t, m) := by
  have hb : (bodyM m).size ≤ 112 := by rw [bodyM_size]; decide
  unfold decM
  rw [if_pos (encM_holds ht hm)]
  have hE : partE (encM t m) = t := partE_packed ht hb
  have hB : partB (encM t m) = bodyM m := partB_packed hb
  rw [hE, hB, tellM_bodyM hm]
theorem decM_zero : decM zero128 = none := if_neg fun h => zeros_not h.1
/-- The coder. -/
def cdM : Cd := ⟨encM, decM, encM_size, decM_encM, decM_zero⟩
theorem decM_yes {s : ByteArray} (h : IsSlab s) (hi : partI s = 0) (hb : (partB s).size = 8) (hm : (tellM (partB s)).May) : cdM.dec s = some (partE s, tellM (partB s)) := if_pos ⟨h, hi, hb, hm⟩
theorem decM_slab {s : ByteArray} (h : ¬ IsSlab s) : cdM.dec s = none := if_neg fun k => h k.1
theorem decM_index {s : ByteArray} (h : partI s ≠ 0) : cdM.dec s = none := if_neg fun k => h k.2.1
theorem decM_size {s : ByteArray} (h : (partB s).size ≠ 8) : cdM.dec s = none := if_neg fun k => h k.2.2.1
theorem decM_may {s : ByteArray} (h : ¬ (tellM (partB s)).May) : cdM.dec s = none := if_neg fun k => h k.2.2.2
/-- A ticket that was read is one of 32 bits. -/
theorem decM_ticket {s : ByteArray} {x : Nat × Ms} (h : cdM.dec s = some x) : x.1 < 4294967296 := by
  unfold cdM decM at h
  simp only at h
  split at h
  · have := Option.some.inj h
    subst this
    exact num4_lt _
  · cases h
theorem decM_told {s : ByteArray} {x : Nat × Ms} (h : cdM.dec s = some x) : x.2.May := by
  unfold cdM decM at h
  simp only at h
  split at h
  · rename_i g
    have := Option.some.inj h
    subst this
    exact g.2.2.2
  · cases h
theorem rd_ticket (D : Dk) (b : Int) : (cdM.rd D b).1 < 4294967296 := by
  unfold Cd.rd
  cases e0 : cdM.dec (D.at_ b) with
  | none => cases e1 : cdM.dec (D.at_ (b + 1)) with
    | none => simp [best]
    | some y => exact decM_ticket e1
  | some x => cases e1 : cdM.dec (D.at_ (b + 1)) with
    | none => exact decM_ticket e0
    | some y =>
      unfold best
      simp only
      split
      · exact decM_ticket e1
      · exact decM_ticket e0
end Go.Proofs.Ytbjpnkjddfpmpaa
