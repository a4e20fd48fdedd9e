/- The document's records (careenref04): may a record be? -/
import Derived.Test.YtopihafmajadfaaRecU
namespace Go.Proofs.Ytopihafmajadfaa
open Go.RowKit

theorem refMay_any {w : World} {v : Value} {r : Rc} (hv : IsRec w v r) (hs : r.before.size ≤ maxLen ∧ r.after.size ≤ maxLen) (yes : Bool) (hy : yes = true ↔ May r) :
    Calls Try.prog 38 #[v] w fun e w' => e = .returned (.bool yes) ∧ Below w.heap.size w w' := by
  by_cases h1 : r.kind = 1
  · exact refMay_1 hv hs h1 yes hy
  by_cases h2 : r.kind = 2
  · exact refMay_2 hv hs h2 yes hy
  by_cases h3 : r.kind = 3
  · exact refMay_3 hv hs h3 yes hy
  by_cases h4 : r.kind = 4
  · exact refMay_4 hv hs h4 yes hy
  by_cases h5 : r.kind = 5
  · exact refMay_5 hv hs h5 yes hy
  by_cases h6 : r.kind = 6
  · exact refMay_6 hv hs h6 yes hy
  exact refMay_o hv hs h1 h2 h3 h4 h5 h6 yes hy
end Go.Proofs.Ytopihafmajadfaa
