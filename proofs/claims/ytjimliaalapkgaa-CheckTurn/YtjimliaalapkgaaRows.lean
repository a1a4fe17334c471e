/-
  No cell of these rows narrows 'for every input' (looked for: loops, veiled, ifaces, maps, wideKeys, modest, calm, conditions, laid).
  DERIVED. THE GIVEN ROWS OF THIS SEAT. 6 by the template 'for every input the law returns true; each argument reads behind the call as it read before'; 0 by the template 'total and deterministic' (their statements: YtjimliaalapkgaaTotals.lean).
  GIVEN WITH THE SEED: the statements are not yours to turn. If you find one false, say at which input.
  Laid BY PROGRAM, IN A SANDBOX (cutbox-rows.mjs): the forced cells as the released guide's own fill.sh prints them over the translation 90056b422b2ec8d0… (all of the seat's roots in one cut). By AI agents, Wed Nov 11 2026. No macro, syntax, notation, axiom, sorry.
-/
import Derived.Test.YtjimliaalapkgaaChecked
import GoSem.Claim
import GoSem.ClaimJoined
import GoSem.ClaimMapViews
import Derived.JoinedTies
import Derived.KernelRfl
namespace Go.Proofs.Ytjimliaalapkgaa
/- THE CELL 'sum', in the pinned program and in every row, IS THE sha256 OF THE DUMP (.gsa) THAT YtjimliaalapkgaaProg.lean LOADS. Nothing in Lean hashes anything: it is a label: what it is worth is what the hold of that sum in a sandbox is worth. -/
noncomputable def Try.pinned : Pinned := { name := "ytjimliaalapkgaa", sum := "90056b422b2ec8d00fa5958bfc75e1299bd28f76c4ce8d309bdeb5f7df71528c", checked := Try.checked }
namespace Rows
def none {H : Type} : Left H := { results := [], args := [] }

/-- 'symbolonlaw05.CheckTells': WHATEVER THE INPUT: true; the input reads as it did. -/
def checkTellsSpec : ChangeSpec := { name := "checkTells", fn := fun _ => fun
  | [d1, d2] => { results := [.lit (.bool true)], args := [d1, d2] }
  | _ => none }
def checkTellsRow : OpenClaim := { program := "ytjimliaalapkgaa", sum := "90056b422b2ec8d00fa5958bfc75e1299bd28f76c4ce8d309bdeb5f7df71528c", func := "symbolon/symbolonlaw05.CheckTells", spec := "checkTells", unfollowed := true, recurses := true, apart := false }
def CheckTellsSaid : Prop := checkTellsRow.holds Try.pinned (OpenSpec.ofChange checkTellsSpec)

/-- ITS FALSE NEIGHBOUR: 'it returns false'. Refute it at one input. -/
def checkTellsWrong : ChangeSpec := { name := "checkTells", fn := fun _ => fun
  | [d1, d2] => { results := [.lit (.bool false)], args := [d1, d2] }
  | _ => none }
def CheckTellsWrongFalsely : Prop := checkTellsRow.holds Try.pinned (OpenSpec.ofChange checkTellsWrong)

/-- 'symbolonlaw05.CheckTurn': WHATEVER THE INPUT: true; the input reads as it did. -/
def checkTurnSpec : ChangeSpec := { name := "checkTurn", fn := fun _ => fun
  | [d] => { results := [.lit (.bool true)], args := [d] }
  | _ => none }
def checkTurnRow : OpenClaim := { program := "ytjimliaalapkgaa", sum := "90056b422b2ec8d00fa5958bfc75e1299bd28f76c4ce8d309bdeb5f7df71528c", func := "symbolon/symbolonlaw05.CheckTurn", spec := "checkTurn", unfollowed := true, recurses := true, apart := false }
def CheckTurnSaid : Prop := checkTurnRow.holds Try.pinned (OpenSpec.ofChange checkTurnSpec)

/-- ITS FALSE NEIGHBOUR: 'it returns false'. Refute it at one input. -/
def checkTurnWrong : ChangeSpec := { name := "checkTurn", fn := fun _ => fun
  | [d] => { results := [.lit (.bool false)], args := [d] }
  | _ => none }
def CheckTurnWrongFalsely : Prop := checkTurnRow.holds Try.pinned (OpenSpec.ofChange checkTurnWrong)

/-- 'symbolonlaw05.CheckCuts': WHATEVER THE INPUT: true; the input reads as it did. -/
def checkCutsSpec : ChangeSpec := { name := "checkCuts", fn := fun _ => fun
  | [d1, d2] => { results := [.lit (.bool true)], args := [d1, d2] }
  | _ => none }
def checkCutsRow : OpenClaim := { program := "ytjimliaalapkgaa", sum := "90056b422b2ec8d00fa5958bfc75e1299bd28f76c4ce8d309bdeb5f7df71528c", func := "symbolon/symbolonlaw05.CheckCuts", spec := "checkCuts", unfollowed := true, recurses := true, apart := false }
def CheckCutsSaid : Prop := checkCutsRow.holds Try.pinned (OpenSpec.ofChange checkCutsSpec)

/-- ITS FALSE NEIGHBOUR: 'it returns false'. Refute it at one input. -/
def checkCutsWrong : ChangeSpec := { name := "checkCuts", fn := fun _ => fun
  | [d1, d2] => { results := [.lit (.bool false)], args := [d1, d2] }
  | _ => none }
def CheckCutsWrongFalsely : Prop := checkCutsRow.holds Try.pinned (OpenSpec.ofChange checkCutsWrong)

/-- 'symbolonlaw05.CheckWeights': WHATEVER THE INPUT: true; the input reads as it did. -/
def checkWeightsSpec : ChangeSpec := { name := "checkWeights", fn := fun _ => fun
  | [d] => { results := [.lit (.bool true)], args := [d] }
  | _ => none }
def checkWeightsRow : OpenClaim := { program := "ytjimliaalapkgaa", sum := "90056b422b2ec8d00fa5958bfc75e1299bd28f76c4ce8d309bdeb5f7df71528c", func := "symbolon/symbolonlaw05.CheckWeights", spec := "checkWeights", unfollowed := true, recurses := true, apart := false }
def CheckWeightsSaid : Prop := checkWeightsRow.holds Try.pinned (OpenSpec.ofChange checkWeightsSpec)

/-- ITS FALSE NEIGHBOUR: 'it returns false'. Refute it at one input. -/
def checkWeightsWrong : ChangeSpec := { name := "checkWeights", fn := fun _ => fun
  | [d] => { results := [.lit (.bool false)], args := [d] }
  | _ => none }
def CheckWeightsWrongFalsely : Prop := checkWeightsRow.holds Try.pinned (OpenSpec.ofChange checkWeightsWrong)

/-- 'symbolonlaw05.CheckSquares': WHATEVER THE INPUT: true; the input reads as it did. -/
def checkSquaresSpec : ChangeSpec := { name := "checkSquares", fn := fun _ => fun
  | [d1, d2] => { results := [.lit (.bool true)], args := [d1, d2] }
  | _ => none }
def checkSquaresRow : OpenClaim := { program := "ytjimliaalapkgaa", sum := "90056b422b2ec8d00fa5958bfc75e1299bd28f76c4ce8d309bdeb5f7df71528c", func := "symbolon/symbolonlaw05.CheckSquares", spec := "checkSquares", unfollowed := true, recurses := true, apart := false }
def CheckSquaresSaid : Prop := checkSquaresRow.holds Try.pinned (OpenSpec.ofChange checkSquaresSpec)

/-- ITS FALSE NEIGHBOUR: 'it returns false'. Refute it at one input. -/
def checkSquaresWrong : ChangeSpec := { name := "checkSquares", fn := fun _ => fun
  | [d1, d2] => { results := [.lit (.bool false)], args := [d1, d2] }
  | _ => none }
def CheckSquaresWrongFalsely : Prop := checkSquaresRow.holds Try.pinned (OpenSpec.ofChange checkSquaresWrong)

/-- 'symbolonlaw05.CheckWrong': WHATEVER THE INPUT: true; the input reads as it did. -/
def checkWrongSpec : ChangeSpec := { name := "checkWrong", fn := fun _ => fun
  | [d1, d2] => { results := [.lit (.bool true)], args := [d1, d2] }
  | _ => none }
def checkWrongRow : OpenClaim := { program := "ytjimliaalapkgaa", sum := "90056b422b2ec8d00fa5958bfc75e1299bd28f76c4ce8d309bdeb5f7df71528c", func := "symbolon/symbolonlaw05.CheckWrong", spec := "checkWrong", unfollowed := true, recurses := true, apart := false }
def CheckWrongSaid : Prop := checkWrongRow.holds Try.pinned (OpenSpec.ofChange checkWrongSpec)

/-- ITS FALSE NEIGHBOUR: 'it returns false'. Refute it at one input. -/
def checkWrongWrong : ChangeSpec := { name := "checkWrong", fn := fun _ => fun
  | [d1, d2] => { results := [.lit (.bool false)], args := [d1, d2] }
  | _ => none }
def CheckWrongWrongFalsely : Prop := checkWrongRow.holds Try.pinned (OpenSpec.ofChange checkWrongWrong)

/- THE SECOND FORM. 'bulk': how many values and letters a reading holds, each counted each time it is reached (what is shared counts as often as it is met; a slice's spare places count too). A statement '..UptoSaid' is the law's where the arguments, and the package variables that the reading takes, are together of bulk at most 1048576: NARROWER than '..Said'. Prove '..Said' where nothing that the law and all that it calls make is longer than what came in: it says more and counts as full. Else prove '..UptoSaid'. A law counts once. -/
mutual
def uptoBulk {H : Type} : DataW H → Nat
  | .lit (.string bytes) => bytes.length + 1
  | .lit _ => 1
  | .nil => 1
  | .ptr d => uptoBulk d + 1
  | .slice elems spare => uptoBulkAll elems + uptoBulkAll spare + 1
  | .agg parts => uptoBulkAll parts + 1
  | .iface _ d => uptoBulk d + 1
  | .map entries => uptoBulkEntries entries + 1
  | .held _ => 1
def uptoBulkAll {H : Type} : List (DataW H) → Nat
  | [] => 0
  | d :: r => uptoBulk d + uptoBulkAll r
def uptoBulkEntries {H : Type} : List (Lit × DataW H) → Nat
  | [] => 0
  | x :: r => uptoBulkEntry x + uptoBulkEntries r
def uptoBulkEntry {H : Type} : Lit × DataW H → Nat
  | (.string bytes, d) => bytes.length + uptoBulk d + 1
  | (_, d) => uptoBulk d + 1
 end
def uptoSmall : (H : Type) → List (DataW H) → Bool := fun _ ds => decide (uptoBulkAll ds ≤ 1048576)
def OpenSpec.upto (s : _root_.Go.ChangeSpec) : _root_.Go.OpenSpec := { _root_.Go.OpenSpec.ofChange s with cond := some uptoSmall }

/-- 'symbolonlaw05.CheckTells', WHERE WHAT IT READS IS OF BULK AT MOST 1048576: true; the input reads as it did. -/
def checkTellsUptoRow : OpenClaim := { program := "ytjimliaalapkgaa", sum := "90056b422b2ec8d00fa5958bfc75e1299bd28f76c4ce8d309bdeb5f7df71528c", func := "symbolon/symbolonlaw05.CheckTells", spec := "checkTells", unfollowed := true, recurses := true, apart := false, narrowed := true }
def CheckTellsUptoSaid : Prop := checkTellsUptoRow.holds Try.pinned (OpenSpec.upto checkTellsSpec)

/-- 'symbolonlaw05.CheckTurn', WHERE WHAT IT READS IS OF BULK AT MOST 1048576: true; the input reads as it did. -/
def checkTurnUptoRow : OpenClaim := { program := "ytjimliaalapkgaa", sum := "90056b422b2ec8d00fa5958bfc75e1299bd28f76c4ce8d309bdeb5f7df71528c", func := "symbolon/symbolonlaw05.CheckTurn", spec := "checkTurn", unfollowed := true, recurses := true, apart := false, narrowed := true }
def CheckTurnUptoSaid : Prop := checkTurnUptoRow.holds Try.pinned (OpenSpec.upto checkTurnSpec)

/-- 'symbolonlaw05.CheckCuts', WHERE WHAT IT READS IS OF BULK AT MOST 1048576: true; the input reads as it did. -/
def checkCutsUptoRow : OpenClaim := { program := "ytjimliaalapkgaa", sum := "90056b422b2ec8d00fa5958bfc75e1299bd28f76c4ce8d309bdeb5f7df71528c", func := "symbolon/symbolonlaw05.CheckCuts", spec := "checkCuts", unfollowed := true, recurses := true, apart := false, narrowed := true }
def CheckCutsUptoSaid : Prop := checkCutsUptoRow.holds Try.pinned (OpenSpec.upto checkCutsSpec)

/-- 'symbolonlaw05.CheckWeights', WHERE WHAT IT READS IS OF BULK AT MOST 1048576: true; the input reads as it did. -/
def checkWeightsUptoRow : OpenClaim := { program := "ytjimliaalapkgaa", sum := "90056b422b2ec8d00fa5958bfc75e1299bd28f76c4ce8d309bdeb5f7df71528c", func := "symbolon/symbolonlaw05.CheckWeights", spec := "checkWeights", unfollowed := true, recurses := true, apart := false, narrowed := true }
def CheckWeightsUptoSaid : Prop := checkWeightsUptoRow.holds Try.pinned (OpenSpec.upto checkWeightsSpec)

/-- 'symbolonlaw05.CheckSquares', WHERE WHAT IT READS IS OF BULK AT MOST 1048576: true; the input reads as it did. -/
def checkSquaresUptoRow : OpenClaim := { program := "ytjimliaalapkgaa", sum := "90056b422b2ec8d00fa5958bfc75e1299bd28f76c4ce8d309bdeb5f7df71528c", func := "symbolon/symbolonlaw05.CheckSquares", spec := "checkSquares", unfollowed := true, recurses := true, apart := false, narrowed := true }
def CheckSquaresUptoSaid : Prop := checkSquaresUptoRow.holds Try.pinned (OpenSpec.upto checkSquaresSpec)

/-- 'symbolonlaw05.CheckWrong', WHERE WHAT IT READS IS OF BULK AT MOST 1048576: true; the input reads as it did. -/
def checkWrongUptoRow : OpenClaim := { program := "ytjimliaalapkgaa", sum := "90056b422b2ec8d00fa5958bfc75e1299bd28f76c4ce8d309bdeb5f7df71528c", func := "symbolon/symbolonlaw05.CheckWrong", spec := "checkWrong", unfollowed := true, recurses := true, apart := false, narrowed := true }
def CheckWrongUptoSaid : Prop := checkWrongUptoRow.holds Try.pinned (OpenSpec.upto checkWrongSpec)

end Rows
end Go.Proofs.Ytjimliaalapkgaa
