/- Drawn regions one of whose operations stores (RegionT), in wide frames: each operation without the region's text. -/
import Derived.Test.YtgjkhjlobfblcaaRegionT
namespace Go.Proofs.Ytgjkhjlobfblcaa
open Go.RowKit

section
variable {P : Program} {ops : Array Oper} {w0 : World} {Q : Exit → Act → World → Prop} {S : Nat → Prop} {i j : Nat} {q p : World → Prop} {o : Oper} {rest : List Oper} {d : Value} {ds : List Value} {C C' : Act}
theorem obsT_step (hij : i ≠ j) (hw : Region.wanted o (yielded ops C.tmps) = true) (h1 : ∀ w, Spare S w0 w → wpList P #[] (PostTB d C o.dst w) [{ o with guard := none }] C w) (hC : C.put o.dst d = C') (h2 : ObsT P ops w0 Q S j q p (i + 1) rest ds C') :
    ObsT P ops w0 Q S j q p i (o :: rest) (d :: ds) C := obsT_is hij (fun w hs => step_bare letsOut_postT hw (h1 w hs)) (by subst hC; exact h2)
theorem obsT_step_read (hij : i ≠ j) (hwt : Region.waitsFor .any ops j i = true) (hw : Region.wanted o (yielded ops C.tmps) = true) (h1 : ∀ w, Spare S w0 w → q w → wpList P #[] (PostTB d C o.dst w) [{ o with guard := none }] C w) (hC : C.put o.dst d = C') (h2 : ObsT P ops w0 Q S j q p (i + 1) rest ds C') :
    ObsT P ops w0 Q S j q p i (o :: rest) (d :: ds) C := obsT_read hij hwt (fun w hs hq => step_bare letsOut_postT hw (h1 w hs hq)) (by subst hC; exact h2)
theorem obsT_step_store (hw : Region.wanted o (yielded ops C.tmps) = true) (h1 : ∀ w, Spare S w0 w → q w → wpList P #[] (PostT d (Spare S) p C o.dst w) [{ o with guard := none }] C w) (hC : C.put o.dst d = C') (h2 : ObsT P ops w0 Q S j q p (j + 1) rest ds C') :
    ObsT P ops w0 Q S j q p j (o :: rest) (d :: ds) C := obsT_store (fun w hs hq => step_bare letsOut_postT hw (h1 w hs hq)) (by subst hC; exact h2)
theorem postT_eq {a : Act} {D : Option Tmp} {w1 w : World} (h : a = C.put D d) (hb : Below w1.heap.size w1 w) : PostTB d C D w1 .normal a w := ⟨h, hb, trivial⟩
theorem postT_eqS {a : Act} {D : Option Tmp} {w1 w : World} (h : a = C.put D d) (hb : Spare S w1 w) (hp : p w) : PostT d (Spare S) p C D w1 .normal a w := ⟨h, hb, hp⟩
end
end Go.Proofs.Ytgjkhjlobfblcaa
