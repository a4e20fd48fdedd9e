/- Texts that belong together, joined: RegionS. -/
import Derived.Test.YtbplgbkbggmaeaaGreatKreg
import Derived.Test.YtbplgbkbggmaeaaGreatKrec
namespace Go.Proofs.YtbplgbkbggmaeaaGreat
open Go.RowKit
structure YieldS (S : Nat → Prop) where
 c : Option Value
 st : Bool
 p : Value → World → Prop
 mono : ∀ x w w', Below w.heap.size w w' → p x w → p x w'
 monoS : st = false → ∀ x w w', Only S w w' → p x w → p x w'
 tight : ∀ d, c = some d → ∀ x w, p x w → x = d
section
variable {S : Nat → Prop}
end
section
variable (P : Program) (ops : Array Oper) {S : Nat → Prop} (w0 : World) (Q : Exit → Act → World → Prop)
end
section
variable {P : Program} {ops : Array Oper} {S : Nat → Prop}
end
section
variable {P : Program} {ops : Array Oper} {n : Nat} {S : Nat → Prop} {vs : List (YieldS S)} {w0 : World} {a0 : Act} {Q : Exit → Act → World → Prop}
end
section
variable {P : Program} {ops : Array Oper} {S : Nat → Prop} {w0 : World} {Q : Exit → Act → World → Prop} {i : Nat} {o : Oper} {rest : List Oper} {Vs : List (YieldS S)} {C C' : Act} {kn : List (Nat × YieldS S × Value)}
end
end Go.Proofs.YtbplgbkbggmaeaaGreat
