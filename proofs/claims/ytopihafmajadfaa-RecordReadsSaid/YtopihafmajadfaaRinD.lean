/- The document's reading (careenref04): Read. -/
import Derived.Test.YtopihafmajadfaaRinK34
import Derived.Test.YtopihafmajadfaaRinK12
import Derived.Test.YtopihafmajadfaaRinK6
namespace Go.Proofs.Ytopihafmajadfaa
open Go.RowKit

theorem refRead_any (s : ByteArray) (at_ : Int) (w : World) (hs : s.size ≤ maxLen) : Calls Try.prog 13 #[.string s, .int .i64 at_] w (Reads3N w (readR s at_)) := by
  by_cases h : at_ < 0 ∨ (s.size : Int) < at_
  · exact refRead_range s at_ w h
  · obtain ⟨k, rfl⟩ := Int.eq_ofNat_of_zero_le (show 0 ≤ at_ by omega)
    have hk : k ≤ s.size := by omega
    by_cases h1 : (rin0 s k).small = 1
    · exact refRead_1 s k w hs hk h1
    by_cases h2 : (rin0 s k).small = 2
    · exact refRead_2 s k w hs hk h2
    by_cases h3 : (rin0 s k).small = 3
    · exact refRead_3 s k w hs hk h3
    by_cases h4 : (rin0 s k).small = 4
    · exact refRead_4 s k w hs hk h4
    by_cases h6 : (rin0 s k).small = 6
    · exact refRead_6 s k w hs hk h6
    exact refRead_o _ s k w hs hk rfl h1 h2 h3 h4 h6
end Go.Proofs.Ytopihafmajadfaa
