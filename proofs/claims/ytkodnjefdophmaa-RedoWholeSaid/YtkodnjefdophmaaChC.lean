/- Package chain: the small functions: written, undone, anywhere, Undo$1, undo, leadsBack, find$1, rise. -/
import Derived.Test.YtkodnjefdophmaaRecM
import Derived.Test.YtkodnjefdophmaaClone
import Derived.Test.YtkodnjefdophmaaChB
namespace Go.Proofs.Ytkodnjefdophmaa
open Go.RowKit

/-- An entry's cells, its two slices beside it. -/
def entCells (p : Int) (r : Rc) (vt vp : Value) : Array Value :=
  #[.int .i64 p, .int .i64 r.kind, .int .i64 r.txn, .int .i64 r.page, .int .i64 r.off, .int .i64 r.prev, .int .i64 r.next, .int .i64 r.beg, .string r.before, .string r.after, vt, vp]
def entV (p : Int) (r : Rc) (vt vp : Value) : Value := .agg (entCells p r vt vp)
/-- A slice's value. -/
def SlV (v : Value) : Prop := ∃ a n c, v = .slice a n c
theorem SlV.nil : SlV (.slice none 0 0) := ⟨_, _, _, rfl⟩
theorem Elems.sl {w : World} {v : Value} {n : Nat} {xs : List Value} (h : Elems w v n xs) : SlV v := let ⟨a, c, h⟩ := h.form; ⟨a, n, c, h⟩

def cmpI (p q : Int) : Int := if p < q then -1 else if q < p then 1 else 0
/-- From which each way goes to a lesser place. -/
def Leads (p : Int) (r : Rc) : Prop := (r.kind = 1 ∧ r.prev < p) ∨ (r.kind = 2 ∧ r.prev < p ∧ r.next < p)
instance (p : Int) (r : Rc) : Decidable (Leads p r) := inferInstanceAs (Decidable (_ ∨ _))
end Go.Proofs.Ytkodnjefdophmaa
