/- The document's records (careenref04): two held against one another. -/
import Derived.Test.YtkodnjefdophmaaRecI
namespace Go.Proofs.Ytkodnjefdophmaa
open Go.RowKit

section
variable {w : World} {va vb : Value}
/-- The parts that are no rows. -/
def Heads (a b : Rc) : Prop := (a.kind = b.kind ∧ a.txn = b.txn ∧ a.page = b.page ∧ a.off = b.off ∧ a.prev = b.prev ∧ a.next = b.next ∧ a.beg = b.beg ∧ a.before.toList = b.before.toList ∧ a.after.toList = b.after.toList) ∧ ((a.txns.length : Int) = b.txns.length ∧ (a.pages.length : Int) = b.pages.length)

end
end Go.Proofs.Ytkodnjefdophmaa
