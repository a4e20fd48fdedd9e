/- Texts that belong together, joined: Ent, EntP. -/
import Derived.Test.YtbplgbkbggmaeaaGreatKrecK
import Derived.Test.YtbplgbkbggmaeaaGreatKreg
import Derived.Test.YtbplgbkbggmaeaaGreatKrec
namespace Go.Proofs.YtbplgbkbggmaeaaGreat
open Go.RowKit
abbrev Ent := Int × Rc
namespace IsEnts
variable {w w' : World} {v : Value} {l : List Ent}
end IsEnts
end Go.Proofs.YtbplgbkbggmaeaaGreat

namespace Go.Proofs.YtbplgbkbggmaeaaGreat
open Go.RowKit
theorem lay_pos {r : Rc} (h : May r) : 0 < (lay r).length := by
 rcases lay_long h with ⟨_, hl⟩ | ⟨_, hl⟩ | ⟨_, hl⟩ | ⟨_, hl⟩ | ⟨_, hl⟩ | ⟨_, hl⟩ <;> omega
def entsOf : Int → List Rc → List Ent
 | _, [] => []
 | at_, r :: rs => (at_, r) :: entsOf (at_ + (lay r).length) rs
namespace Along
variable {l0 l r : List UInt8} {es : List Ent} {at_ : Nat} {x : Rc}
end Along
end Go.Proofs.YtbplgbkbggmaeaaGreat
