/- What page.Apply was shown to make of a page (applyR) is what the plain texts say (apP); the empty page is zeroP. -/
import Derived.Test.YtkodnjefdophmaaRdB
import Derived.Test.YtkodnjefdophmaaPgI
namespace Go.Proofs.Ytkodnjefdophmaa

theorem noughts_P : Hs.zeroP = (0, noughts) := rfl
theorem applyR_P (a : Int) (d : ByteArray) (x : Int) (r : Rc) : applyR a d x r = Hs.apP (a, d) x r := by
  unfold applyR Hs.apP putR
  by_cases h1 : Chg r
  · have k1 : Hs.Chg16 r := h1
    by_cases h2 : a < x
    · by_cases h3 : PgOk a d
      · have k3 : Hs.RightP (a, d) := h3
        by_cases h4 : Num x
        · by_cases h5 : InPage r.off r.after.size
          · have k5 : Hs.SpotP r := ⟨h5.1, h5.2.2⟩
            rw [if_pos h3, if_pos h4, if_pos h5, if_pos ⟨h1, h2, rfl⟩, if_pos ⟨k1, h2, k3, h4, k5⟩]
          · rw [if_pos h3, if_pos h4, if_neg h5, if_neg (fun k => by have := k.2.2; revert this; decide), if_neg (fun k => h5 ⟨k.2.2.2.2.1, Int.natCast_nonneg _, k.2.2.2.2.2⟩)]
        · rw [if_pos h3, if_neg h4, if_neg (fun k => by have := k.2.2; revert this; decide), if_neg (fun k => h4 k.2.2.2.1)]
      · rw [if_neg h3, if_neg (fun k => by have := k.2.2; revert this; decide), if_neg (fun k => h3 k.2.2.1)]
    · rw [if_neg (fun k => h2 k.2.1), if_neg (fun k => h2 k.2.1)]
  · rw [if_neg (fun k => h1 k.1), if_neg (fun k => h1 k.1)]
end Go.Proofs.Ytkodnjefdophmaa
