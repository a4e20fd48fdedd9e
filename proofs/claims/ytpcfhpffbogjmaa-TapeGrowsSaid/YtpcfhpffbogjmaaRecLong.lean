/- How long a record's bytes are: plain. -/
import Derived.Test.YtpcfhpffbogjmaaRecG
namespace Go.Proofs.Ytpcfhpffbogjmaa
open Go.RowKit

/-- How long a record's bytes are, by its kind. -/
theorem lay_long {r : Rc} (h : May r) : (r.kind = 1 ∧ ((lay r).length : Int) = 12 + 2 * r.after.size) ∨ (r.kind = 2 ∧ ((lay r).length : Int) = 16 + r.after.size) ∨ (r.kind = 3 ∧ ((lay r).length : Int) = 9) ∨
    (r.kind = 4 ∧ ((lay r).length : Int) = 9) ∨ (r.kind = 5 ∧ ((lay r).length : Int) = 1) ∨ (r.kind = 6 ∧ ((lay r).length : Int) = 7 + 12 * r.txns.length + 5 * r.pages.length) := by
  cases h with
  | @upd t p pg o b a ht hn hp hs hb =>
    refine .inl ⟨rfl, ?_⟩
    have e : (lay (.upd t p pg o b a)).length = 12 + b.data.toList.length + a.data.toList.length := by
      simp only [lay, Rc.upd, List.length_append]
      simp [beI_len]
      omega
    have s1 : b.data.toList.length = b.size := rfl
    have s2 : a.data.toList.length = a.size := rfl
    rw [e, s1, s2]
    show ((12 + b.size + a.size : Nat) : Int) = 12 + 2 * (a.size : Int)
    omega
  | @und t p n pg o a ht hn hp hx hs =>
    refine .inr (.inl ⟨rfl, ?_⟩)
    have e : (lay (.und t p n pg o a)).length = 16 + a.data.toList.length := by
      simp only [lay, Rc.und, List.length_append]
      simp [beI_len]
      omega
    have s2 : a.data.toList.length = a.size := rfl
    rw [e, s2]
    show ((16 + a.size : Nat) : Int) = 16 + (a.size : Int)
    omega
  | @com k t p hk ht hn hp =>
    have e : (lay (.com k t p)).length = 9 := by
      rcases hk with rfl | rfl <;> simp [lay, Rc.com, beI_len]
    rcases hk with rfl | rfl
    · exact .inr (.inr (.inl ⟨rfl, by rw [e]; rfl⟩))
    · exact .inr (.inr (.inr (.inl ⟨rfl, by rw [e]; rfl⟩)))
  | beg => exact .inr (.inr (.inr (.inr (.inl ⟨rfl, by decide⟩))))
  | @tab b ts ps hb ht hp h3 h2 =>
    refine .inr (.inr (.inr (.inr (.inr ⟨rfl, ?_⟩))))
    have e : (lay (.tab b ts ps)).length = 7 + 12 * ts.length + 5 * ps.length := by
      have e2 : (lay (.tab b ts ps)) = [lowI 6] ++ encTab (.tab b ts ps) := by simp [lay, Rc.tab]
      rw [e2, List.length_append]
      simp only [encTab, List.length_append, beI_len, List.length_cons, List.length_nil, Rc.tab, flat3_len, flat2_len]
      omega
    rw [e]
    show ((7 + 12 * ts.length + 5 * ps.length : Nat) : Int) = 7 + 12 * (ts.length : Int) + 5 * (ps.length : Int)
    omega
end Go.Proofs.Ytpcfhpffbogjmaa
