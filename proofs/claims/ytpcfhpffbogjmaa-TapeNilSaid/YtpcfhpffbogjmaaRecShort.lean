/- How long a record's bytes are at most: plain. -/
import Derived.Test.YtpcfhpffbogjmaaRecLong
namespace Go.Proofs.Ytpcfhpffbogjmaa
open Go.RowKit

theorem may_small {r : Rc} (h : May r) : r.after.size ≤ 16 ∧ r.txns.length ≤ 4 ∧ r.pages.length ≤ 8 := by
  cases h with
  | @upd t p pg o b a ht hn hp hs hb =>
    obtain ⟨_, _, ⟨h1, h2⟩, _⟩ := hs
    exact ⟨h2, Nat.zero_le _, Nat.zero_le _⟩
  | @und t p n pg o a ht hn hp hx hs =>
    obtain ⟨_, _, ⟨h1, h2⟩, _⟩ := hs
    exact ⟨h2, Nat.zero_le _, Nat.zero_le _⟩
  | @com k t p hk ht hn hp => exact ⟨Nat.zero_le _, Nat.zero_le _, Nat.zero_le _⟩
  | beg => exact ⟨Nat.zero_le _, Nat.zero_le _, Nat.zero_le _⟩
  | @tab b ts ps hb ht hp h3 h2 => exact ⟨Nat.zero_le _, ht, hp⟩
theorem lay_short {r : Rc} (h : May r) : (lay r).length ≤ 112 := by
  obtain ⟨h1, h2, h3⟩ := may_small h
  rcases lay_long h with ⟨hk, hl⟩ | ⟨hk, hl⟩ | ⟨hk, hl⟩ | ⟨hk, hl⟩ | ⟨hk, hl⟩ | ⟨hk, hl⟩ <;> omega
end Go.Proofs.Ytpcfhpffbogjmaa
