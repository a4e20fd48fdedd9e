/- Records one behind the other: what stands in a text, as plain data. -/
import Derived.Test.YtpcfhpffbogjmaaRecLong
import Derived.Test.YtpcfhpffbogjmaaEnt
namespace Go.Proofs.Ytpcfhpffbogjmaa
open Go.RowKit

/-- The records that stand in l, which begins at 'at'; none: anything else. -/
def allL : Nat → Int → List UInt8 → Option (List Ent)
  | _, _, [] => some []
  | 0, _, _ :: _ => none
  | n + 1, at_, b :: l => (recP (b :: l)).bind fun x => (allL n (at_ + ((b :: l).length : Int) - (x.2.length : Int)) x.2).map ((at_, x.1) :: ·)
theorem lay_pos {r : Rc} (h : May r) : 0 < (lay r).length := by
  rcases lay_long h with ⟨_, hl⟩ | ⟨_, hl⟩ | ⟨_, hl⟩ | ⟨_, hl⟩ | ⟨_, hl⟩ | ⟨_, hl⟩ <;> omega
/-- A record that is read takes a byte at least. -/
theorem recP_less {l r : List UInt8} {x : Rc} (h : recP l = some (x, r)) : r.length < l.length := by
  obtain ⟨hm, rfl⟩ := recP_some h
  have := lay_pos hm
  simp
  omega
theorem allL_step {n : Nat} {at_ : Int} {l r : List UInt8} {x : Rc} (h : recP l = some (x, r)) : allL (n + 1) at_ l = (allL n (at_ + (l.length : Int) - (r.length : Int)) r).map ((at_, x) :: ·) := by
  cases l with
  | nil => have := recP_less h; simp at this
  | cons b l => simp only [allL, h, Option.bind_some]
theorem allL_stop {n : Nat} {at_ : Int} {l : List UInt8} (hl : l ≠ []) (h : recP l = none) : allL n at_ l = none := by
  cases l with
  | nil => exact absurd rfl hl
  | cons b l => cases n with
    | zero => rfl
    | succ n => simp only [allL, h, Option.bind_none]
/-- More fuel than bytes is no more. -/
theorem allL_fuel : ∀ (n m : Nat) (at_ : Int) (l : List UInt8), l.length ≤ n → l.length ≤ m → allL n at_ l = allL m at_ l
  | n, m, at_, [] => fun _ _ => by cases n <;> cases m <;> rfl
  | 0, _, _, _ :: _ => fun h _ => by simp at h
  | _, 0, _, _ :: _ => fun _ h => by simp at h
  | n + 1, m + 1, at_, b :: l => fun h1 h2 => by
    cases hp : recP (b :: l) with
    | none => rw [allL_stop (by simp) hp, allL_stop (by simp) hp]
    | some x =>
      have hx : recP (b :: l) = some (x.1, x.2) := hp
      have hls := recP_less hx
      simp only [List.length_cons] at h1 h2 hls
      rw [allL_step hx, allL_step hx, allL_fuel n m _ x.2 (by omega) (by omega)]
/-- Entries of records laid one behind the other. -/
def entsOf : Int → List Rc → List Ent
  | _, [] => []
  | at_, r :: rs => (at_, r) :: entsOf (at_ + (lay r).length) rs
theorem entsOf_snoc : ∀ (rs : List Rc) (at_ : Int) (r : Rc), entsOf at_ (rs ++ [r]) = entsOf at_ rs ++ [(at_ + (rs.flatMap lay).length, r)]
  | [], at_, r => by simp [entsOf]
  | x :: rs, at_, r => by
    show (at_, x) :: entsOf _ (rs ++ [r]) = _
    rw [entsOf_snoc rs]
    simp [entsOf]
    omega
theorem allL_lay : ∀ (rs : List Rc) (_ : ∀ r ∈ rs, May r) (n : Nat) (at_ : Int), (rs.flatMap lay).length ≤ n → allL n at_ (rs.flatMap lay) = some (entsOf at_ rs)
  | [], _, n, at_, _ => by cases n <;> rfl
  | r :: rs, h, n, at_, hn => by
    have hm := h r (by simp)
    have hp := lay_pos hm
    rw [List.flatMap_cons] at hn ⊢
    rw [List.length_append] at hn
    cases n with
    | zero => omega
    | succ n =>
      rw [allL_step (recP_lay hm (rs.flatMap lay)), show at_ + ((lay r ++ rs.flatMap lay).length : Int) - ((rs.flatMap lay).length : Int) = at_ + (lay r).length from by simp; omega,
        allL_lay rs (fun x hx => h x (by simp [hx])) n _ (by omega)]
      rfl
/-- What an All has gone through: the entries so far, its place, what stands behind. -/
def Along (l0 : List UInt8) (es : List Ent) (at_ : Nat) (l : List UInt8) : Prop :=
  at_ ≤ l0.length ∧ l = l0.drop at_ ∧ allL l0.length 0 l0 = (allL l.length at_ l).map (es ++ ·)
namespace Along
variable {l0 l r : List UInt8} {es : List Ent} {at_ : Nat} {x : Rc}
theorem start (l0 : List UInt8) : Along l0 [] 0 l0 := ⟨Nat.zero_le _, rfl, by show _ = Option.map _ (allL l0.length 0 l0); cases allL l0.length 0 l0 <;> rfl⟩
theorem done (h : Along l0 es at_ l) (he : l = []) : allL l0.length 0 l0 = some es := by
  rw [h.2.2, he]
  simp [allL]
theorem stop (h : Along l0 es at_ l) (hl : l ≠ []) (hp : recP l = none) : allL l0.length 0 l0 = none := by
  rw [h.2.2, allL_stop hl hp]; rfl
theorem step (h : Along l0 es at_ l) (hp : recP l = some (x, r)) : Along l0 (es ++ [((at_ : Int), x)]) (l0.length - r.length) r := by
  obtain ⟨h1, rfl, h3⟩ := h
  have hls := recP_less hp
  obtain ⟨hm, hlr⟩ := recP_some hp
  have hlen : (l0.drop at_).length = l0.length - at_ := by simp
  have hll : (l0.drop at_).length = (lay x).length + r.length := by rw [hlr]; simp
  refine ⟨by omega, ?_, ?_⟩
  · have e : l0.length - r.length = at_ + (lay x).length := by omega
    rw [e, ← List.drop_drop, hlr, List.drop_left' rfl]
  · rw [h3, allL_fuel _ ((l0.drop at_).length + 1) _ _ (Nat.le_refl _) (Nat.le_succ _), allL_step hp, allL_fuel _ r.length _ r (by omega) (Nat.le_refl _)]
    rw [show (at_ : Int) + ((l0.drop at_).length : Int) - (r.length : Int) = ((l0.length - r.length : Nat) : Int) from by omega]
    cases allL r.length _ r <;> simp
end Along
end Go.Proofs.Ytpcfhpffbogjmaa
