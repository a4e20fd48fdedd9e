/-
  No cell of these rows narrows 'for every input' (looked for: loops, veiled, ifaces, maps, wideKeys, modest, calm, conditions, laid).
  DERIVED. THE GIVEN ROWS OF THIS SEAT. 5 by the template 'for every input the law returns true; each argument reads behind the call as it read before'; 0 by the template 'total and deterministic' (their statements: YtkodnjefdophmaaTotals.lean).
  GIVEN WITH THE SEED: the statements are not yours to turn. If you find one false, say at which input.
  Laid BY PROGRAM, IN A SANDBOX (cutbox-rows.mjs): the forced cells as the released guide's own fill.sh prints them over the translation b1d5b2e39372f2f2… (all of the seat's roots in one cut). By AI agents, Wed Nov 11 2026. No macro, syntax, notation, axiom, sorry.
-/
import Derived.Test.YtkodnjefdophmaaChecked
import GoSem.Claim
import GoSem.ClaimJoined
import GoSem.ClaimMapViews
import Derived.JoinedTies
import Derived.KernelRfl
namespace Go.Proofs.Ytkodnjefdophmaa
/- THE CELL 'sum', in the pinned program and in every row, IS THE sha256 OF THE DUMP (.gsa) THAT YtkodnjefdophmaaProg.lean LOADS. Nothing in Lean hashes anything: it is a label: what it is worth is what the hold of that sum in a sandbox is worth. -/
noncomputable def Try.pinned : Pinned := { name := "ytkodnjefdophmaa", sum := "b1d5b2e39372f2f296404cb5347ba469e71415ae2d2e6a621d52ead8dfb1a790", checked := Try.checked }
namespace Rows
def none {H : Type} : Left H := { results := [], args := [] }

/-- 'careenlaw14.RedoDoes': WHATEVER THE INPUT: true; the input reads as it did. -/
def redoDoesSpec : ChangeSpec := { name := "redoDoes", fn := fun _ => fun
  | [d1, d2, d3, d4] => { results := [.lit (.bool true)], args := [d1, d2, d3, d4] }
  | _ => none }
def redoDoesRow : OpenClaim := { program := "ytkodnjefdophmaa", sum := "b1d5b2e39372f2f296404cb5347ba469e71415ae2d2e6a621d52ead8dfb1a790", func := "careen/careenlaw14.RedoDoes", spec := "redoDoes", apart := false }
def RedoDoesSaid : Prop := redoDoesRow.holds Try.pinned (OpenSpec.ofChange redoDoesSpec)

/-- ITS FALSE NEIGHBOUR: 'it returns false'. Refute it at one input. -/
def redoDoesWrong : ChangeSpec := { name := "redoDoes", fn := fun _ => fun
  | [d1, d2, d3, d4] => { results := [.lit (.bool false)], args := [d1, d2, d3, d4] }
  | _ => none }
def RedoDoesWrongFalsely : Prop := redoDoesRow.holds Try.pinned (OpenSpec.ofChange redoDoesWrong)

/-- 'careenlaw14.RedoWhole': WHATEVER THE INPUT: true; the input reads as it did. -/
def redoWholeSpec : ChangeSpec := { name := "redoWhole", fn := fun _ => fun
  | [d1, d2, d3] => { results := [.lit (.bool true)], args := [d1, d2, d3] }
  | _ => none }
def redoWholeRow : OpenClaim := { program := "ytkodnjefdophmaa", sum := "b1d5b2e39372f2f296404cb5347ba469e71415ae2d2e6a621d52ead8dfb1a790", func := "careen/careenlaw14.RedoWhole", spec := "redoWhole", apart := false }
def RedoWholeSaid : Prop := redoWholeRow.holds Try.pinned (OpenSpec.ofChange redoWholeSpec)

/-- ITS FALSE NEIGHBOUR: 'it returns false'. Refute it at one input. -/
def redoWholeWrong : ChangeSpec := { name := "redoWhole", fn := fun _ => fun
  | [d1, d2, d3] => { results := [.lit (.bool false)], args := [d1, d2, d3] }
  | _ => none }
def RedoWholeWrongFalsely : Prop := redoWholeRow.holds Try.pinned (OpenSpec.ofChange redoWholeWrong)

/-- 'careenlaw14.RedoAgain': WHATEVER THE INPUT: true; the input reads as it did. -/
def redoAgainSpec : ChangeSpec := { name := "redoAgain", fn := fun _ => fun
  | [d1, d2, d3, d4] => { results := [.lit (.bool true)], args := [d1, d2, d3, d4] }
  | _ => none }
def redoAgainRow : OpenClaim := { program := "ytkodnjefdophmaa", sum := "b1d5b2e39372f2f296404cb5347ba469e71415ae2d2e6a621d52ead8dfb1a790", func := "careen/careenlaw14.RedoAgain", spec := "redoAgain", apart := false }
def RedoAgainSaid : Prop := redoAgainRow.holds Try.pinned (OpenSpec.ofChange redoAgainSpec)

/-- ITS FALSE NEIGHBOUR: 'it returns false'. Refute it at one input. -/
def redoAgainWrong : ChangeSpec := { name := "redoAgain", fn := fun _ => fun
  | [d1, d2, d3, d4] => { results := [.lit (.bool false)], args := [d1, d2, d3, d4] }
  | _ => none }
def RedoAgainWrongFalsely : Prop := redoAgainRow.holds Try.pinned (OpenSpec.ofChange redoAgainWrong)

/-- 'careenlaw14.RedoApart': WHATEVER THE INPUT: true; the input reads as it did. -/
def redoApartSpec : ChangeSpec := { name := "redoApart", fn := fun _ => fun
  | [d1, d2, d3, d4] => { results := [.lit (.bool true)], args := [d1, d2, d3, d4] }
  | _ => none }
def redoApartRow : OpenClaim := { program := "ytkodnjefdophmaa", sum := "b1d5b2e39372f2f296404cb5347ba469e71415ae2d2e6a621d52ead8dfb1a790", func := "careen/careenlaw14.RedoApart", spec := "redoApart", apart := false }
def RedoApartSaid : Prop := redoApartRow.holds Try.pinned (OpenSpec.ofChange redoApartSpec)

/-- ITS FALSE NEIGHBOUR: 'it returns false'. Refute it at one input. -/
def redoApartWrong : ChangeSpec := { name := "redoApart", fn := fun _ => fun
  | [d1, d2, d3, d4] => { results := [.lit (.bool false)], args := [d1, d2, d3, d4] }
  | _ => none }
def RedoApartWrongFalsely : Prop := redoApartRow.holds Try.pinned (OpenSpec.ofChange redoApartWrong)

/-- 'careenlaw14.RedoSteps': WHATEVER THE INPUT: true; the input reads as it did. -/
def redoStepsSpec : ChangeSpec := { name := "redoSteps", fn := fun _ => fun
  | [d1, d2, d3] => { results := [.lit (.bool true)], args := [d1, d2, d3] }
  | _ => none }
def redoStepsRow : OpenClaim := { program := "ytkodnjefdophmaa", sum := "b1d5b2e39372f2f296404cb5347ba469e71415ae2d2e6a621d52ead8dfb1a790", func := "careen/careenlaw14.RedoSteps", spec := "redoSteps", apart := false }
def RedoStepsSaid : Prop := redoStepsRow.holds Try.pinned (OpenSpec.ofChange redoStepsSpec)

/-- ITS FALSE NEIGHBOUR: 'it returns false'. Refute it at one input. -/
def redoStepsWrong : ChangeSpec := { name := "redoSteps", fn := fun _ => fun
  | [d1, d2, d3] => { results := [.lit (.bool false)], args := [d1, d2, d3] }
  | _ => none }
def RedoStepsWrongFalsely : Prop := redoStepsRow.holds Try.pinned (OpenSpec.ofChange redoStepsWrong)

/- THE SECOND FORM. 'bulk': how many values and letters a reading holds, each counted each time it is reached (what is shared counts as often as it is met; a slice's spare places count too). A statement '..UptoSaid' is the law's where the arguments, and the package variables that the reading takes, are together of bulk at most 1048576: NARROWER than '..Said'. Prove '..Said' where nothing that the law and all that it calls make is longer than what came in: it says more and counts as full. Else prove '..UptoSaid'. A law counts once. -/
mutual
def uptoBulk {H : Type} : DataW H → Nat
  | .lit (.string bytes) => bytes.length + 1
  | .lit _ => 1
  | .nil => 1
  | .ptr d => uptoBulk d + 1
  | .slice elems spare => uptoBulkAll elems + uptoBulkAll spare + 1
  | .agg parts => uptoBulkAll parts + 1
  | .iface _ d => uptoBulk d + 1
  | .map entries => uptoBulkEntries entries + 1
  | .held _ => 1
def uptoBulkAll {H : Type} : List (DataW H) → Nat
  | [] => 0
  | d :: r => uptoBulk d + uptoBulkAll r
def uptoBulkEntries {H : Type} : List (Lit × DataW H) → Nat
  | [] => 0
  | x :: r => uptoBulkEntry x + uptoBulkEntries r
def uptoBulkEntry {H : Type} : Lit × DataW H → Nat
  | (.string bytes, d) => bytes.length + uptoBulk d + 1
  | (_, d) => uptoBulk d + 1
 end
def uptoSmall : (H : Type) → List (DataW H) → Bool := fun _ ds => decide (uptoBulkAll ds ≤ 1048576)
def OpenSpec.upto (s : _root_.Go.ChangeSpec) : _root_.Go.OpenSpec := { _root_.Go.OpenSpec.ofChange s with cond := some uptoSmall }

/-- 'careenlaw14.RedoDoes', WHERE WHAT IT READS IS OF BULK AT MOST 1048576: true; the input reads as it did. -/
def redoDoesUptoRow : OpenClaim := { program := "ytkodnjefdophmaa", sum := "b1d5b2e39372f2f296404cb5347ba469e71415ae2d2e6a621d52ead8dfb1a790", func := "careen/careenlaw14.RedoDoes", spec := "redoDoes", apart := false, narrowed := true }
def RedoDoesUptoSaid : Prop := redoDoesUptoRow.holds Try.pinned (OpenSpec.upto redoDoesSpec)

/-- 'careenlaw14.RedoWhole', WHERE WHAT IT READS IS OF BULK AT MOST 1048576: true; the input reads as it did. -/
def redoWholeUptoRow : OpenClaim := { program := "ytkodnjefdophmaa", sum := "b1d5b2e39372f2f296404cb5347ba469e71415ae2d2e6a621d52ead8dfb1a790", func := "careen/careenlaw14.RedoWhole", spec := "redoWhole", apart := false, narrowed := true }
def RedoWholeUptoSaid : Prop := redoWholeUptoRow.holds Try.pinned (OpenSpec.upto redoWholeSpec)

/-- 'careenlaw14.RedoAgain', WHERE WHAT IT READS IS OF BULK AT MOST 1048576: true; the input reads as it did. -/
def redoAgainUptoRow : OpenClaim := { program := "ytkodnjefdophmaa", sum := "b1d5b2e39372f2f296404cb5347ba469e71415ae2d2e6a621d52ead8dfb1a790", func := "careen/careenlaw14.RedoAgain", spec := "redoAgain", apart := false, narrowed := true }
def RedoAgainUptoSaid : Prop := redoAgainUptoRow.holds Try.pinned (OpenSpec.upto redoAgainSpec)

/-- 'careenlaw14.RedoApart', WHERE WHAT IT READS IS OF BULK AT MOST 1048576: true; the input reads as it did. -/
def redoApartUptoRow : OpenClaim := { program := "ytkodnjefdophmaa", sum := "b1d5b2e39372f2f296404cb5347ba469e71415ae2d2e6a621d52ead8dfb1a790", func := "careen/careenlaw14.RedoApart", spec := "redoApart", apart := false, narrowed := true }
def RedoApartUptoSaid : Prop := redoApartUptoRow.holds Try.pinned (OpenSpec.upto redoApartSpec)

/-- 'careenlaw14.RedoSteps', WHERE WHAT IT READS IS OF BULK AT MOST 1048576: true; the input reads as it did. -/
def redoStepsUptoRow : OpenClaim := { program := "ytkodnjefdophmaa", sum := "b1d5b2e39372f2f296404cb5347ba469e71415ae2d2e6a621d52ead8dfb1a790", func := "careen/careenlaw14.RedoSteps", spec := "redoSteps", apart := false, narrowed := true }
def RedoStepsUptoSaid : Prop := redoStepsUptoRow.holds Try.pinned (OpenSpec.upto redoStepsSpec)

end Rows
end Go.Proofs.Ytkodnjefdophmaa
