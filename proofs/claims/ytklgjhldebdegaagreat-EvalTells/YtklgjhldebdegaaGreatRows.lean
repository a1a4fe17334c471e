/-
  No cell of these rows narrows 'for every input' (looked for: loops, veiled, ifaces, maps, wideKeys, modest, calm, conditions, laid).
  DERIVED. THE GIVEN ROWS OF THIS SEAT. 6 by the template 'for every input the law returns true; each argument reads behind the call as it read before'; 0 by the template 'total and deterministic' (their statements: YtklgjhldebdegaaGreatTotals.lean).
  GIVEN WITH THE SEED: the statements are not yours to turn. If you find one false, say at which input.
  Laid BY PROGRAM, IN A SANDBOX (cutbox-rows.mjs): the forced cells as the released guide's own fill.sh prints them over the translation 7c9f9cb850f1bbb8… (all of the seat's roots in one cut). By AI agents, Wed Nov 11 2026. No macro, syntax, notation, axiom, sorry.
-/
import Derived.Test.YtklgjhldebdegaaGreatChecked
import GoSem.Claim
import GoSem.ClaimJoined
import GoSem.ClaimMapViews
import Derived.JoinedTies
import Derived.KernelRfl
namespace Go.Proofs.YtklgjhldebdegaaGreat
/- THE CELL 'sum', in the pinned program and in every row, IS THE sha256 OF THE DUMP (.gsa) THAT YtklgjhldebdegaaGreatProg.lean LOADS. Nothing in Lean hashes anything: it is a label: what it is worth is what the hold of that sum in a sandbox is worth. -/
noncomputable def Tryz.pinned : Pinned := { name := "ytklgjhldebdegaagreat", sum := "7c9f9cb850f1bbb8c0c3d812b5221179f278c85c8868a4e7c075a23ac23d085f", checked := Tryz.checked }
namespace Rows
def none {H : Type} : Left H := { results := [], args := [] }

/-- 'symbolonlaw13.EvalTells': WHATEVER THE INPUT: true; the input reads as it did. -/
def evalTellsSpec : ChangeSpec := { name := "evalTells", fn := fun _ => fun
  | [d1, d2, d3, d4, d5, d6, d7] => { results := [.lit (.bool true)], args := [d1, d2, d3, d4, d5, d6, d7] }
  | _ => none }
def evalTellsRow : OpenClaim := { program := "ytklgjhldebdegaagreat", sum := "7c9f9cb850f1bbb8c0c3d812b5221179f278c85c8868a4e7c075a23ac23d085f", func := "symbolon/symbolonlaw13.EvalTells", spec := "evalTells", unfollowed := true, recurses := true, apart := false }
def EvalTellsSaid : Prop := evalTellsRow.holds Tryz.pinned (OpenSpec.ofChange evalTellsSpec)

/-- ITS FALSE NEIGHBOUR: 'it returns false'. Refute it at one input. -/
def evalTellsWrong : ChangeSpec := { name := "evalTells", fn := fun _ => fun
  | [d1, d2, d3, d4, d5, d6, d7] => { results := [.lit (.bool false)], args := [d1, d2, d3, d4, d5, d6, d7] }
  | _ => none }
def EvalTellsWrongFalsely : Prop := evalTellsRow.holds Tryz.pinned (OpenSpec.ofChange evalTellsWrong)

/-- 'symbolonlaw13.EvalExact': WHATEVER THE INPUT: true; the input reads as it did. -/
def evalExactSpec : ChangeSpec := { name := "evalExact", fn := fun _ => fun
  | [d1, d2, d3, d4, d5, d6, d7] => { results := [.lit (.bool true)], args := [d1, d2, d3, d4, d5, d6, d7] }
  | _ => none }
def evalExactRow : OpenClaim := { program := "ytklgjhldebdegaagreat", sum := "7c9f9cb850f1bbb8c0c3d812b5221179f278c85c8868a4e7c075a23ac23d085f", func := "symbolon/symbolonlaw13.EvalExact", spec := "evalExact", unfollowed := true, recurses := true, apart := false }
def EvalExactSaid : Prop := evalExactRow.holds Tryz.pinned (OpenSpec.ofChange evalExactSpec)

/-- ITS FALSE NEIGHBOUR: 'it returns false'. Refute it at one input. -/
def evalExactWrong : ChangeSpec := { name := "evalExact", fn := fun _ => fun
  | [d1, d2, d3, d4, d5, d6, d7] => { results := [.lit (.bool false)], args := [d1, d2, d3, d4, d5, d6, d7] }
  | _ => none }
def EvalExactWrongFalsely : Prop := evalExactRow.holds Tryz.pinned (OpenSpec.ofChange evalExactWrong)

/-- 'symbolonlaw13.EvalWhole': WHATEVER THE INPUT: true; the input reads as it did. -/
def evalWholeSpec : ChangeSpec := { name := "evalWhole", fn := fun _ => fun
  | [d1, d2, d3, d4, d5, d6] => { results := [.lit (.bool true)], args := [d1, d2, d3, d4, d5, d6] }
  | _ => none }
def evalWholeRow : OpenClaim := { program := "ytklgjhldebdegaagreat", sum := "7c9f9cb850f1bbb8c0c3d812b5221179f278c85c8868a4e7c075a23ac23d085f", func := "symbolon/symbolonlaw13.EvalWhole", spec := "evalWhole", unfollowed := true, recurses := true, apart := false }
def EvalWholeSaid : Prop := evalWholeRow.holds Tryz.pinned (OpenSpec.ofChange evalWholeSpec)

/-- ITS FALSE NEIGHBOUR: 'it returns false'. Refute it at one input. -/
def evalWholeWrong : ChangeSpec := { name := "evalWhole", fn := fun _ => fun
  | [d1, d2, d3, d4, d5, d6] => { results := [.lit (.bool false)], args := [d1, d2, d3, d4, d5, d6] }
  | _ => none }
def EvalWholeWrongFalsely : Prop := evalWholeRow.holds Tryz.pinned (OpenSpec.ofChange evalWholeWrong)

/-- 'symbolonlaw13.EvalApart': WHATEVER THE INPUT: true; the input reads as it did. -/
def evalApartSpec : ChangeSpec := { name := "evalApart", fn := fun _ => fun
  | [d1, d2, d3, d4, d5, d6, d7, d8] => { results := [.lit (.bool true)], args := [d1, d2, d3, d4, d5, d6, d7, d8] }
  | _ => none }
def evalApartRow : OpenClaim := { program := "ytklgjhldebdegaagreat", sum := "7c9f9cb850f1bbb8c0c3d812b5221179f278c85c8868a4e7c075a23ac23d085f", func := "symbolon/symbolonlaw13.EvalApart", spec := "evalApart", unfollowed := true, recurses := true, apart := false }
def EvalApartSaid : Prop := evalApartRow.holds Tryz.pinned (OpenSpec.ofChange evalApartSpec)

/-- ITS FALSE NEIGHBOUR: 'it returns false'. Refute it at one input. -/
def evalApartWrong : ChangeSpec := { name := "evalApart", fn := fun _ => fun
  | [d1, d2, d3, d4, d5, d6, d7, d8] => { results := [.lit (.bool false)], args := [d1, d2, d3, d4, d5, d6, d7, d8] }
  | _ => none }
def EvalApartWrongFalsely : Prop := evalApartRow.holds Tryz.pinned (OpenSpec.ofChange evalApartWrong)

/-- 'symbolonlaw13.EvalFirst': WHATEVER THE INPUT: true; the input reads as it did. -/
def evalFirstSpec : ChangeSpec := { name := "evalFirst", fn := fun _ => fun
  | [d1, d2, d3] => { results := [.lit (.bool true)], args := [d1, d2, d3] }
  | _ => none }
def evalFirstRow : OpenClaim := { program := "ytklgjhldebdegaagreat", sum := "7c9f9cb850f1bbb8c0c3d812b5221179f278c85c8868a4e7c075a23ac23d085f", func := "symbolon/symbolonlaw13.EvalFirst", spec := "evalFirst", unfollowed := true, recurses := true, apart := false }
def EvalFirstSaid : Prop := evalFirstRow.holds Tryz.pinned (OpenSpec.ofChange evalFirstSpec)

/-- ITS FALSE NEIGHBOUR: 'it returns false'. Refute it at one input. -/
def evalFirstWrong : ChangeSpec := { name := "evalFirst", fn := fun _ => fun
  | [d1, d2, d3] => { results := [.lit (.bool false)], args := [d1, d2, d3] }
  | _ => none }
def EvalFirstWrongFalsely : Prop := evalFirstRow.holds Tryz.pinned (OpenSpec.ofChange evalFirstWrong)

/-- 'symbolonlaw13.EvalLast': WHATEVER THE INPUT: true; the input reads as it did. -/
def evalLastSpec : ChangeSpec := { name := "evalLast", fn := fun _ => fun
  | [d1, d2, d3, d4, d5, d6] => { results := [.lit (.bool true)], args := [d1, d2, d3, d4, d5, d6] }
  | _ => none }
def evalLastRow : OpenClaim := { program := "ytklgjhldebdegaagreat", sum := "7c9f9cb850f1bbb8c0c3d812b5221179f278c85c8868a4e7c075a23ac23d085f", func := "symbolon/symbolonlaw13.EvalLast", spec := "evalLast", unfollowed := true, recurses := true, apart := false }
def EvalLastSaid : Prop := evalLastRow.holds Tryz.pinned (OpenSpec.ofChange evalLastSpec)

/-- ITS FALSE NEIGHBOUR: 'it returns false'. Refute it at one input. -/
def evalLastWrong : ChangeSpec := { name := "evalLast", fn := fun _ => fun
  | [d1, d2, d3, d4, d5, d6] => { results := [.lit (.bool false)], args := [d1, d2, d3, d4, d5, d6] }
  | _ => none }
def EvalLastWrongFalsely : Prop := evalLastRow.holds Tryz.pinned (OpenSpec.ofChange evalLastWrong)

/- THE SECOND FORM. 'bulk': how many values and letters a reading holds, each counted each time it is reached (what is shared counts as often as it is met; a slice's spare places count too). A statement '..UptoSaid' is the law's where the arguments, and the package variables that the reading takes, are together of bulk at most 1048576: NARROWER than '..Said'. Prove '..Said' where nothing that the law and all that it calls make is longer than what came in: it says more and counts as full. Else prove '..UptoSaid'. A law counts once. -/
mutual
def uptoBulk {H : Type} : DataW H → Nat
  | .lit (.string bytes) => bytes.length + 1
  | .lit _ => 1
  | .nil => 1
  | .ptr d => uptoBulk d + 1
  | .slice elems spare => uptoBulkAll elems + uptoBulkAll spare + 1
  | .agg parts => uptoBulkAll parts + 1
  | .iface _ d => uptoBulk d + 1
  | .map entries => uptoBulkEntries entries + 1
  | .held _ => 1
def uptoBulkAll {H : Type} : List (DataW H) → Nat
  | [] => 0
  | d :: r => uptoBulk d + uptoBulkAll r
def uptoBulkEntries {H : Type} : List (Lit × DataW H) → Nat
  | [] => 0
  | x :: r => uptoBulkEntry x + uptoBulkEntries r
def uptoBulkEntry {H : Type} : Lit × DataW H → Nat
  | (.string bytes, d) => bytes.length + uptoBulk d + 1
  | (_, d) => uptoBulk d + 1
 end
def uptoSmall : (H : Type) → List (DataW H) → Bool := fun _ ds => decide (uptoBulkAll ds ≤ 1048576)
def OpenSpec.upto (s : _root_.Go.ChangeSpec) : _root_.Go.OpenSpec := { _root_.Go.OpenSpec.ofChange s with cond := some uptoSmall }

/-- 'symbolonlaw13.EvalTells', WHERE WHAT IT READS IS OF BULK AT MOST 1048576: true; the input reads as it did. -/
def evalTellsUptoRow : OpenClaim := { program := "ytklgjhldebdegaagreat", sum := "7c9f9cb850f1bbb8c0c3d812b5221179f278c85c8868a4e7c075a23ac23d085f", func := "symbolon/symbolonlaw13.EvalTells", spec := "evalTells", unfollowed := true, recurses := true, apart := false, narrowed := true }
def EvalTellsUptoSaid : Prop := evalTellsUptoRow.holds Tryz.pinned (OpenSpec.upto evalTellsSpec)

/-- 'symbolonlaw13.EvalExact', WHERE WHAT IT READS IS OF BULK AT MOST 1048576: true; the input reads as it did. -/
def evalExactUptoRow : OpenClaim := { program := "ytklgjhldebdegaagreat", sum := "7c9f9cb850f1bbb8c0c3d812b5221179f278c85c8868a4e7c075a23ac23d085f", func := "symbolon/symbolonlaw13.EvalExact", spec := "evalExact", unfollowed := true, recurses := true, apart := false, narrowed := true }
def EvalExactUptoSaid : Prop := evalExactUptoRow.holds Tryz.pinned (OpenSpec.upto evalExactSpec)

/-- 'symbolonlaw13.EvalWhole', WHERE WHAT IT READS IS OF BULK AT MOST 1048576: true; the input reads as it did. -/
def evalWholeUptoRow : OpenClaim := { program := "ytklgjhldebdegaagreat", sum := "7c9f9cb850f1bbb8c0c3d812b5221179f278c85c8868a4e7c075a23ac23d085f", func := "symbolon/symbolonlaw13.EvalWhole", spec := "evalWhole", unfollowed := true, recurses := true, apart := false, narrowed := true }
def EvalWholeUptoSaid : Prop := evalWholeUptoRow.holds Tryz.pinned (OpenSpec.upto evalWholeSpec)

/-- 'symbolonlaw13.EvalApart', WHERE WHAT IT READS IS OF BULK AT MOST 1048576: true; the input reads as it did. -/
def evalApartUptoRow : OpenClaim := { program := "ytklgjhldebdegaagreat", sum := "7c9f9cb850f1bbb8c0c3d812b5221179f278c85c8868a4e7c075a23ac23d085f", func := "symbolon/symbolonlaw13.EvalApart", spec := "evalApart", unfollowed := true, recurses := true, apart := false, narrowed := true }
def EvalApartUptoSaid : Prop := evalApartUptoRow.holds Tryz.pinned (OpenSpec.upto evalApartSpec)

/-- 'symbolonlaw13.EvalFirst', WHERE WHAT IT READS IS OF BULK AT MOST 1048576: true; the input reads as it did. -/
def evalFirstUptoRow : OpenClaim := { program := "ytklgjhldebdegaagreat", sum := "7c9f9cb850f1bbb8c0c3d812b5221179f278c85c8868a4e7c075a23ac23d085f", func := "symbolon/symbolonlaw13.EvalFirst", spec := "evalFirst", unfollowed := true, recurses := true, apart := false, narrowed := true }
def EvalFirstUptoSaid : Prop := evalFirstUptoRow.holds Tryz.pinned (OpenSpec.upto evalFirstSpec)

/-- 'symbolonlaw13.EvalLast', WHERE WHAT IT READS IS OF BULK AT MOST 1048576: true; the input reads as it did. -/
def evalLastUptoRow : OpenClaim := { program := "ytklgjhldebdegaagreat", sum := "7c9f9cb850f1bbb8c0c3d812b5221179f278c85c8868a4e7c075a23ac23d085f", func := "symbolon/symbolonlaw13.EvalLast", spec := "evalLast", unfollowed := true, recurses := true, apart := false, narrowed := true }
def EvalLastUptoSaid : Prop := evalLastUptoRow.holds Tryz.pinned (OpenSpec.upto evalLastSpec)

end Rows
end Go.Proofs.YtklgjhldebdegaaGreat
