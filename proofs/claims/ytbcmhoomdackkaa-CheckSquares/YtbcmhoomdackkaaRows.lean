/-
  No cell of these rows narrows 'for every input' (looked for: loops, veiled, ifaces, maps, wideKeys, modest, calm, conditions, laid).
  DERIVED. THE GIVEN ROWS OF THIS SEAT. 10 by the template 'for every input the law returns true; each argument reads behind the call as it read before'; 0 by the template 'total and deterministic' (their statements: YtbcmhoomdackkaaTotals.lean).
  GIVEN WITH THE SEED: the statements are not yours to turn. If you find one false, say at which input.
  Laid BY PROGRAM, IN A SANDBOX (cutbox-rows.mjs): the forced cells as the released guide's own fill.sh prints them over the translation 941296135caceb57… (all of the seat's roots in one cut). By AI agents, Wed Nov 11 2026. No macro, syntax, notation, axiom, sorry.
-/
import Derived.Test.YtbcmhoomdackkaaChecked
import GoSem.Claim
import GoSem.ClaimJoined
import GoSem.ClaimMapViews
import Derived.JoinedTies
import Derived.KernelRfl
namespace Go.Proofs.Ytbcmhoomdackkaa
/- THE CELL 'sum', in the pinned program and in every row, IS THE sha256 OF THE DUMP (.gsa) THAT YtbcmhoomdackkaaProg.lean LOADS. Nothing in Lean hashes anything: it is a label: what it is worth is what the hold of that sum in a sandbox is worth. -/
noncomputable def Try.pinned : Pinned := { name := "ytbcmhoomdackkaa", sum := "941296135caceb572888cc0573d725d09b58d0d82cc08b4663a022d7b6faa679", checked := Try.checked }
namespace Rows
def none {H : Type} : Left H := { results := [], args := [] }

/-- 'symbolonlaw05.CheckCuts': WHATEVER THE INPUT: true; the input reads as it did. -/
def checkCutsSpec : ChangeSpec := { name := "checkCuts", fn := fun _ => fun
  | [d1, d2] => { results := [.lit (.bool true)], args := [d1, d2] }
  | _ => none }
def checkCutsRow : OpenClaim := { program := "ytbcmhoomdackkaa", sum := "941296135caceb572888cc0573d725d09b58d0d82cc08b4663a022d7b6faa679", func := "symbolon/symbolonlaw05.CheckCuts", spec := "checkCuts", unfollowed := true, recurses := true, apart := false }
def CheckCutsSaid : Prop := checkCutsRow.holds Try.pinned (OpenSpec.ofChange checkCutsSpec)

/-- ITS FALSE NEIGHBOUR: 'it returns false'. Refute it at one input. -/
def checkCutsWrong : ChangeSpec := { name := "checkCuts", fn := fun _ => fun
  | [d1, d2] => { results := [.lit (.bool false)], args := [d1, d2] }
  | _ => none }
def CheckCutsWrongFalsely : Prop := checkCutsRow.holds Try.pinned (OpenSpec.ofChange checkCutsWrong)

/-- 'symbolonlaw05.CheckSquares': WHATEVER THE INPUT: true; the input reads as it did. -/
def checkSquaresSpec : ChangeSpec := { name := "checkSquares", fn := fun _ => fun
  | [d1, d2] => { results := [.lit (.bool true)], args := [d1, d2] }
  | _ => none }
def checkSquaresRow : OpenClaim := { program := "ytbcmhoomdackkaa", sum := "941296135caceb572888cc0573d725d09b58d0d82cc08b4663a022d7b6faa679", func := "symbolon/symbolonlaw05.CheckSquares", spec := "checkSquares", unfollowed := true, recurses := true, apart := false }
def CheckSquaresSaid : Prop := checkSquaresRow.holds Try.pinned (OpenSpec.ofChange checkSquaresSpec)

/-- ITS FALSE NEIGHBOUR: 'it returns false'. Refute it at one input. -/
def checkSquaresWrong : ChangeSpec := { name := "checkSquares", fn := fun _ => fun
  | [d1, d2] => { results := [.lit (.bool false)], args := [d1, d2] }
  | _ => none }
def CheckSquaresWrongFalsely : Prop := checkSquaresRow.holds Try.pinned (OpenSpec.ofChange checkSquaresWrong)

/-- 'symbolonlaw05.CheckWrong': WHATEVER THE INPUT: true; the input reads as it did. -/
def checkWrongSpec : ChangeSpec := { name := "checkWrong", fn := fun _ => fun
  | [d1, d2] => { results := [.lit (.bool true)], args := [d1, d2] }
  | _ => none }
def checkWrongRow : OpenClaim := { program := "ytbcmhoomdackkaa", sum := "941296135caceb572888cc0573d725d09b58d0d82cc08b4663a022d7b6faa679", func := "symbolon/symbolonlaw05.CheckWrong", spec := "checkWrong", unfollowed := true, recurses := true, apart := false }
def CheckWrongSaid : Prop := checkWrongRow.holds Try.pinned (OpenSpec.ofChange checkWrongSpec)

/-- ITS FALSE NEIGHBOUR: 'it returns false'. Refute it at one input. -/
def checkWrongWrong : ChangeSpec := { name := "checkWrong", fn := fun _ => fun
  | [d1, d2] => { results := [.lit (.bool false)], args := [d1, d2] }
  | _ => none }
def CheckWrongWrongFalsely : Prop := checkWrongRow.holds Try.pinned (OpenSpec.ofChange checkWrongWrong)

/-- 'symbolonlaw07.PlainTells': WHATEVER THE INPUT: true; the input reads as it did. -/
def plainTellsSpec : ChangeSpec := { name := "plainTells", fn := fun _ => fun
  | [d1, d2, d3, d4] => { results := [.lit (.bool true)], args := [d1, d2, d3, d4] }
  | _ => none }
def plainTellsRow : OpenClaim := { program := "ytbcmhoomdackkaa", sum := "941296135caceb572888cc0573d725d09b58d0d82cc08b4663a022d7b6faa679", func := "symbolon/symbolonlaw07.PlainTells", spec := "plainTells", unfollowed := true, recurses := true, apart := false }
def PlainTellsSaid : Prop := plainTellsRow.holds Try.pinned (OpenSpec.ofChange plainTellsSpec)

/-- ITS FALSE NEIGHBOUR: 'it returns false'. Refute it at one input. -/
def plainTellsWrong : ChangeSpec := { name := "plainTells", fn := fun _ => fun
  | [d1, d2, d3, d4] => { results := [.lit (.bool false)], args := [d1, d2, d3, d4] }
  | _ => none }
def PlainTellsWrongFalsely : Prop := plainTellsRow.holds Try.pinned (OpenSpec.ofChange plainTellsWrong)

/-- 'symbolonlaw07.PlainLinear': WHATEVER THE INPUT: true; the input reads as it did. -/
def plainLinearSpec : ChangeSpec := { name := "plainLinear", fn := fun _ => fun
  | [d1, d2, d3, d4, d5, d6] => { results := [.lit (.bool true)], args := [d1, d2, d3, d4, d5, d6] }
  | _ => none }
def plainLinearRow : OpenClaim := { program := "ytbcmhoomdackkaa", sum := "941296135caceb572888cc0573d725d09b58d0d82cc08b4663a022d7b6faa679", func := "symbolon/symbolonlaw07.PlainLinear", spec := "plainLinear", unfollowed := true, recurses := true, apart := false }
def PlainLinearSaid : Prop := plainLinearRow.holds Try.pinned (OpenSpec.ofChange plainLinearSpec)

/-- ITS FALSE NEIGHBOUR: 'it returns false'. Refute it at one input. -/
def plainLinearWrong : ChangeSpec := { name := "plainLinear", fn := fun _ => fun
  | [d1, d2, d3, d4, d5, d6] => { results := [.lit (.bool false)], args := [d1, d2, d3, d4, d5, d6] }
  | _ => none }
def PlainLinearWrongFalsely : Prop := plainLinearRow.holds Try.pinned (OpenSpec.ofChange plainLinearWrong)

/-- 'symbolonlaw07.PlainWeights': WHATEVER THE INPUT: true; the input reads as it did. -/
def plainWeightsSpec : ChangeSpec := { name := "plainWeights", fn := fun _ => fun
  | [d1, d2, d3, d4, d5, d6] => { results := [.lit (.bool true)], args := [d1, d2, d3, d4, d5, d6] }
  | _ => none }
def plainWeightsRow : OpenClaim := { program := "ytbcmhoomdackkaa", sum := "941296135caceb572888cc0573d725d09b58d0d82cc08b4663a022d7b6faa679", func := "symbolon/symbolonlaw07.PlainWeights", spec := "plainWeights", unfollowed := true, recurses := true, apart := false }
def PlainWeightsSaid : Prop := plainWeightsRow.holds Try.pinned (OpenSpec.ofChange plainWeightsSpec)

/-- ITS FALSE NEIGHBOUR: 'it returns false'. Refute it at one input. -/
def plainWeightsWrong : ChangeSpec := { name := "plainWeights", fn := fun _ => fun
  | [d1, d2, d3, d4, d5, d6] => { results := [.lit (.bool false)], args := [d1, d2, d3, d4, d5, d6] }
  | _ => none }
def PlainWeightsWrongFalsely : Prop := plainWeightsRow.holds Try.pinned (OpenSpec.ofChange plainWeightsWrong)

/-- 'symbolonlaw07.PlainSquare': WHATEVER THE INPUT: true; the input reads as it did. -/
def plainSquareSpec : ChangeSpec := { name := "plainSquare", fn := fun _ => fun
  | [d1, d2, d3, d4, d5] => { results := [.lit (.bool true)], args := [d1, d2, d3, d4, d5] }
  | _ => none }
def plainSquareRow : OpenClaim := { program := "ytbcmhoomdackkaa", sum := "941296135caceb572888cc0573d725d09b58d0d82cc08b4663a022d7b6faa679", func := "symbolon/symbolonlaw07.PlainSquare", spec := "plainSquare", unfollowed := true, recurses := true, apart := false }
def PlainSquareSaid : Prop := plainSquareRow.holds Try.pinned (OpenSpec.ofChange plainSquareSpec)

/-- ITS FALSE NEIGHBOUR: 'it returns false'. Refute it at one input. -/
def plainSquareWrong : ChangeSpec := { name := "plainSquare", fn := fun _ => fun
  | [d1, d2, d3, d4, d5] => { results := [.lit (.bool false)], args := [d1, d2, d3, d4, d5] }
  | _ => none }
def PlainSquareWrongFalsely : Prop := plainSquareRow.holds Try.pinned (OpenSpec.ofChange plainSquareWrong)

/-- 'symbolonlaw07.PlainTurn': WHATEVER THE INPUT: true; the input reads as it did. -/
def plainTurnSpec : ChangeSpec := { name := "plainTurn", fn := fun _ => fun
  | [d1, d2, d3] => { results := [.lit (.bool true)], args := [d1, d2, d3] }
  | _ => none }
def plainTurnRow : OpenClaim := { program := "ytbcmhoomdackkaa", sum := "941296135caceb572888cc0573d725d09b58d0d82cc08b4663a022d7b6faa679", func := "symbolon/symbolonlaw07.PlainTurn", spec := "plainTurn", unfollowed := true, recurses := true, apart := false }
def PlainTurnSaid : Prop := plainTurnRow.holds Try.pinned (OpenSpec.ofChange plainTurnSpec)

/-- ITS FALSE NEIGHBOUR: 'it returns false'. Refute it at one input. -/
def plainTurnWrong : ChangeSpec := { name := "plainTurn", fn := fun _ => fun
  | [d1, d2, d3] => { results := [.lit (.bool false)], args := [d1, d2, d3] }
  | _ => none }
def PlainTurnWrongFalsely : Prop := plainTurnRow.holds Try.pinned (OpenSpec.ofChange plainTurnWrong)

/-- 'symbolonlaw07.PlainCut': WHATEVER THE INPUT: true; the input reads as it did. -/
def plainCutSpec : ChangeSpec := { name := "plainCut", fn := fun _ => fun
  | [d1, d2, d3, d4] => { results := [.lit (.bool true)], args := [d1, d2, d3, d4] }
  | _ => none }
def plainCutRow : OpenClaim := { program := "ytbcmhoomdackkaa", sum := "941296135caceb572888cc0573d725d09b58d0d82cc08b4663a022d7b6faa679", func := "symbolon/symbolonlaw07.PlainCut", spec := "plainCut", unfollowed := true, recurses := true, apart := false }
def PlainCutSaid : Prop := plainCutRow.holds Try.pinned (OpenSpec.ofChange plainCutSpec)

/-- ITS FALSE NEIGHBOUR: 'it returns false'. Refute it at one input. -/
def plainCutWrong : ChangeSpec := { name := "plainCut", fn := fun _ => fun
  | [d1, d2, d3, d4] => { results := [.lit (.bool false)], args := [d1, d2, d3, d4] }
  | _ => none }
def PlainCutWrongFalsely : Prop := plainCutRow.holds Try.pinned (OpenSpec.ofChange plainCutWrong)

/-- 'symbolonlaw07.PlainZero': WHATEVER THE INPUT: true; the input reads as it did. -/
def plainZeroSpec : ChangeSpec := { name := "plainZero", fn := fun _ => fun
  | [d1, d2, d3, d4] => { results := [.lit (.bool true)], args := [d1, d2, d3, d4] }
  | _ => none }
def plainZeroRow : OpenClaim := { program := "ytbcmhoomdackkaa", sum := "941296135caceb572888cc0573d725d09b58d0d82cc08b4663a022d7b6faa679", func := "symbolon/symbolonlaw07.PlainZero", spec := "plainZero", unfollowed := true, recurses := true, apart := false }
def PlainZeroSaid : Prop := plainZeroRow.holds Try.pinned (OpenSpec.ofChange plainZeroSpec)

/-- ITS FALSE NEIGHBOUR: 'it returns false'. Refute it at one input. -/
def plainZeroWrong : ChangeSpec := { name := "plainZero", fn := fun _ => fun
  | [d1, d2, d3, d4] => { results := [.lit (.bool false)], args := [d1, d2, d3, d4] }
  | _ => none }
def PlainZeroWrongFalsely : Prop := plainZeroRow.holds Try.pinned (OpenSpec.ofChange plainZeroWrong)

/- THE SECOND FORM. 'bulk': how many values and letters a reading holds, each counted each time it is reached (what is shared counts as often as it is met; a slice's spare places count too). A statement '..UptoSaid' is the law's where the arguments, and the package variables that the reading takes, are together of bulk at most 1048576: NARROWER than '..Said'. Prove '..Said' where nothing that the law and all that it calls make is longer than what came in: it says more and counts as full. Else prove '..UptoSaid'. A law counts once. -/
mutual
def uptoBulk {H : Type} : DataW H → Nat
  | .lit (.string bytes) => bytes.length + 1
  | .lit _ => 1
  | .nil => 1
  | .ptr d => uptoBulk d + 1
  | .slice elems spare => uptoBulkAll elems + uptoBulkAll spare + 1
  | .agg parts => uptoBulkAll parts + 1
  | .iface _ d => uptoBulk d + 1
  | .map entries => uptoBulkEntries entries + 1
  | .held _ => 1
def uptoBulkAll {H : Type} : List (DataW H) → Nat
  | [] => 0
  | d :: r => uptoBulk d + uptoBulkAll r
def uptoBulkEntries {H : Type} : List (Lit × DataW H) → Nat
  | [] => 0
  | x :: r => uptoBulkEntry x + uptoBulkEntries r
def uptoBulkEntry {H : Type} : Lit × DataW H → Nat
  | (.string bytes, d) => bytes.length + uptoBulk d + 1
  | (_, d) => uptoBulk d + 1
 end
def uptoSmall : (H : Type) → List (DataW H) → Bool := fun _ ds => decide (uptoBulkAll ds ≤ 1048576)
def OpenSpec.upto (s : _root_.Go.ChangeSpec) : _root_.Go.OpenSpec := { _root_.Go.OpenSpec.ofChange s with cond := some uptoSmall }

/-- 'symbolonlaw05.CheckCuts', WHERE WHAT IT READS IS OF BULK AT MOST 1048576: true; the input reads as it did. -/
def checkCutsUptoRow : OpenClaim := { program := "ytbcmhoomdackkaa", sum := "941296135caceb572888cc0573d725d09b58d0d82cc08b4663a022d7b6faa679", func := "symbolon/symbolonlaw05.CheckCuts", spec := "checkCuts", unfollowed := true, recurses := true, apart := false, narrowed := true }
def CheckCutsUptoSaid : Prop := checkCutsUptoRow.holds Try.pinned (OpenSpec.upto checkCutsSpec)

/-- 'symbolonlaw05.CheckSquares', WHERE WHAT IT READS IS OF BULK AT MOST 1048576: true; the input reads as it did. -/
def checkSquaresUptoRow : OpenClaim := { program := "ytbcmhoomdackkaa", sum := "941296135caceb572888cc0573d725d09b58d0d82cc08b4663a022d7b6faa679", func := "symbolon/symbolonlaw05.CheckSquares", spec := "checkSquares", unfollowed := true, recurses := true, apart := false, narrowed := true }
def CheckSquaresUptoSaid : Prop := checkSquaresUptoRow.holds Try.pinned (OpenSpec.upto checkSquaresSpec)

/-- 'symbolonlaw05.CheckWrong', WHERE WHAT IT READS IS OF BULK AT MOST 1048576: true; the input reads as it did. -/
def checkWrongUptoRow : OpenClaim := { program := "ytbcmhoomdackkaa", sum := "941296135caceb572888cc0573d725d09b58d0d82cc08b4663a022d7b6faa679", func := "symbolon/symbolonlaw05.CheckWrong", spec := "checkWrong", unfollowed := true, recurses := true, apart := false, narrowed := true }
def CheckWrongUptoSaid : Prop := checkWrongUptoRow.holds Try.pinned (OpenSpec.upto checkWrongSpec)

/-- 'symbolonlaw07.PlainTells', WHERE WHAT IT READS IS OF BULK AT MOST 1048576: true; the input reads as it did. -/
def plainTellsUptoRow : OpenClaim := { program := "ytbcmhoomdackkaa", sum := "941296135caceb572888cc0573d725d09b58d0d82cc08b4663a022d7b6faa679", func := "symbolon/symbolonlaw07.PlainTells", spec := "plainTells", unfollowed := true, recurses := true, apart := false, narrowed := true }
def PlainTellsUptoSaid : Prop := plainTellsUptoRow.holds Try.pinned (OpenSpec.upto plainTellsSpec)

/-- 'symbolonlaw07.PlainLinear', WHERE WHAT IT READS IS OF BULK AT MOST 1048576: true; the input reads as it did. -/
def plainLinearUptoRow : OpenClaim := { program := "ytbcmhoomdackkaa", sum := "941296135caceb572888cc0573d725d09b58d0d82cc08b4663a022d7b6faa679", func := "symbolon/symbolonlaw07.PlainLinear", spec := "plainLinear", unfollowed := true, recurses := true, apart := false, narrowed := true }
def PlainLinearUptoSaid : Prop := plainLinearUptoRow.holds Try.pinned (OpenSpec.upto plainLinearSpec)

/-- 'symbolonlaw07.PlainWeights', WHERE WHAT IT READS IS OF BULK AT MOST 1048576: true; the input reads as it did. -/
def plainWeightsUptoRow : OpenClaim := { program := "ytbcmhoomdackkaa", sum := "941296135caceb572888cc0573d725d09b58d0d82cc08b4663a022d7b6faa679", func := "symbolon/symbolonlaw07.PlainWeights", spec := "plainWeights", unfollowed := true, recurses := true, apart := false, narrowed := true }
def PlainWeightsUptoSaid : Prop := plainWeightsUptoRow.holds Try.pinned (OpenSpec.upto plainWeightsSpec)

/-- 'symbolonlaw07.PlainSquare', WHERE WHAT IT READS IS OF BULK AT MOST 1048576: true; the input reads as it did. -/
def plainSquareUptoRow : OpenClaim := { program := "ytbcmhoomdackkaa", sum := "941296135caceb572888cc0573d725d09b58d0d82cc08b4663a022d7b6faa679", func := "symbolon/symbolonlaw07.PlainSquare", spec := "plainSquare", unfollowed := true, recurses := true, apart := false, narrowed := true }
def PlainSquareUptoSaid : Prop := plainSquareUptoRow.holds Try.pinned (OpenSpec.upto plainSquareSpec)

/-- 'symbolonlaw07.PlainTurn', WHERE WHAT IT READS IS OF BULK AT MOST 1048576: true; the input reads as it did. -/
def plainTurnUptoRow : OpenClaim := { program := "ytbcmhoomdackkaa", sum := "941296135caceb572888cc0573d725d09b58d0d82cc08b4663a022d7b6faa679", func := "symbolon/symbolonlaw07.PlainTurn", spec := "plainTurn", unfollowed := true, recurses := true, apart := false, narrowed := true }
def PlainTurnUptoSaid : Prop := plainTurnUptoRow.holds Try.pinned (OpenSpec.upto plainTurnSpec)

/-- 'symbolonlaw07.PlainCut', WHERE WHAT IT READS IS OF BULK AT MOST 1048576: true; the input reads as it did. -/
def plainCutUptoRow : OpenClaim := { program := "ytbcmhoomdackkaa", sum := "941296135caceb572888cc0573d725d09b58d0d82cc08b4663a022d7b6faa679", func := "symbolon/symbolonlaw07.PlainCut", spec := "plainCut", unfollowed := true, recurses := true, apart := false, narrowed := true }
def PlainCutUptoSaid : Prop := plainCutUptoRow.holds Try.pinned (OpenSpec.upto plainCutSpec)

/-- 'symbolonlaw07.PlainZero', WHERE WHAT IT READS IS OF BULK AT MOST 1048576: true; the input reads as it did. -/
def plainZeroUptoRow : OpenClaim := { program := "ytbcmhoomdackkaa", sum := "941296135caceb572888cc0573d725d09b58d0d82cc08b4663a022d7b6faa679", func := "symbolon/symbolonlaw07.PlainZero", spec := "plainZero", unfollowed := true, recurses := true, apart := false, narrowed := true }
def PlainZeroUptoSaid : Prop := plainZeroUptoRow.holds Try.pinned (OpenSpec.upto plainZeroSpec)

end Rows
end Go.Proofs.Ytbcmhoomdackkaa
