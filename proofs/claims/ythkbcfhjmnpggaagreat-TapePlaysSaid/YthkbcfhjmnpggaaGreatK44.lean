/- Texts that belong together, joined: TaZb. -/
import Derived.Test.YthkbcfhjmnpggaaGreatK43
namespace Go.Proofs.YthkbcfhjmnpggaaGreat
open Go.RowKit
theorem walkTapePlays (n:Int) (v:Value) (ops:List OpT) (p:Int) (w:World) (_:(Lit.int .i64 n).wf=true) (hv:IsOpsT w v ops) (_:(Lit.int .i64 p).wf=true) :
 Calls Tryz.prog 3 #[.int .i64 n,v,.int .i64 p] w fun e w'=>e=.returned (.bool true)∧Below w.heap.size w w':=by
 by_cases hn:n < 8∨64 < n
 · exact tapePlays_bad n v p w hn
 ·obtain ⟨N,rfl⟩:=Int.eq_ofNat_of_zero_le (show 0≤n by omega)
  by_cases hl:isLongT ops
  · exact tapePlays_long N (by omega) (by omega) v ops p w hv hl
  · exact tapePlays_some N (by omega) (by omega) v ops p w hv hl
end Go.Proofs.YthkbcfhjmnpggaaGreat
