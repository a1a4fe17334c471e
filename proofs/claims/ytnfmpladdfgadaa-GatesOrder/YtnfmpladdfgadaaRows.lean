/-
  No cell of these rows narrows 'for every input' (looked for: loops, veiled, ifaces, maps, wideKeys, modest, calm, conditions, laid).
  DERIVED. THE GIVEN ROWS OF THIS SEAT. 9 by the template 'for every input the law returns true; each argument reads behind the call as it read before'; 0 by the template 'total and deterministic' (their statements: YtnfmpladdfgadaaTotals.lean).
  GIVEN WITH THE SEED: the statements are not yours to turn. If you find one false, say at which input.
  Laid BY PROGRAM, IN A SANDBOX (cutbox-rows.mjs): the forced cells as the released guide's own fill.sh prints them over the translation c3c70c2ba12874cd… (all of the seat's roots in one cut). By AI agents, Wed Nov 11 2026. No macro, syntax, notation, axiom, sorry.
-/
import Derived.Test.YtnfmpladdfgadaaChecked
import GoSem.Claim
import GoSem.ClaimJoined
import GoSem.ClaimMapViews
import Derived.JoinedTies
import Derived.KernelRfl
namespace Go.Proofs.Ytnfmpladdfgadaa
/- THE CELL 'sum', in the pinned program and in every row, IS THE sha256 OF THE DUMP (.gsa) THAT YtnfmpladdfgadaaProg.lean LOADS. Nothing in Lean hashes anything: it is a label: what it is worth is what the hold of that sum in a sandbox is worth. -/
noncomputable def Try.pinned : Pinned := { name := "ytnfmpladdfgadaa", sum := "c3c70c2ba12874cd3aee6124eefcbfc4a6594a11df2f002a24968d0353160d58", checked := Try.checked }
namespace Rows
def none {H : Type} : Left H := { results := [], args := [] }

/-- 'symbolonlaw05.CheckTells': WHATEVER THE INPUT: true; the input reads as it did. -/
def checkTellsSpec : ChangeSpec := { name := "checkTells", fn := fun _ => fun
  | [d1, d2] => { results := [.lit (.bool true)], args := [d1, d2] }
  | _ => none }
def checkTellsRow : OpenClaim := { program := "ytnfmpladdfgadaa", sum := "c3c70c2ba12874cd3aee6124eefcbfc4a6594a11df2f002a24968d0353160d58", func := "symbolon/symbolonlaw05.CheckTells", spec := "checkTells", unfollowed := true, recurses := true, apart := false }
def CheckTellsSaid : Prop := checkTellsRow.holds Try.pinned (OpenSpec.ofChange checkTellsSpec)

/-- ITS FALSE NEIGHBOUR: 'it returns false'. Refute it at one input. -/
def checkTellsWrong : ChangeSpec := { name := "checkTells", fn := fun _ => fun
  | [d1, d2] => { results := [.lit (.bool false)], args := [d1, d2] }
  | _ => none }
def CheckTellsWrongFalsely : Prop := checkTellsRow.holds Try.pinned (OpenSpec.ofChange checkTellsWrong)

/-- 'symbolonlaw06.TermsTells': WHATEVER THE INPUT: true; the input reads as it did. -/
def termsTellsSpec : ChangeSpec := { name := "termsTells", fn := fun _ => fun
  | [d1, d2, d3] => { results := [.lit (.bool true)], args := [d1, d2, d3] }
  | _ => none }
def termsTellsRow : OpenClaim := { program := "ytnfmpladdfgadaa", sum := "c3c70c2ba12874cd3aee6124eefcbfc4a6594a11df2f002a24968d0353160d58", func := "symbolon/symbolonlaw06.TermsTells", spec := "termsTells", unfollowed := true, recurses := true, apart := false }
def TermsTellsSaid : Prop := termsTellsRow.holds Try.pinned (OpenSpec.ofChange termsTellsSpec)

/-- ITS FALSE NEIGHBOUR: 'it returns false'. Refute it at one input. -/
def termsTellsWrong : ChangeSpec := { name := "termsTells", fn := fun _ => fun
  | [d1, d2, d3] => { results := [.lit (.bool false)], args := [d1, d2, d3] }
  | _ => none }
def TermsTellsWrongFalsely : Prop := termsTellsRow.holds Try.pinned (OpenSpec.ofChange termsTellsWrong)

/-- 'symbolonlaw07.PlainTells': WHATEVER THE INPUT: true; the input reads as it did. -/
def plainTellsSpec : ChangeSpec := { name := "plainTells", fn := fun _ => fun
  | [d1, d2, d3, d4] => { results := [.lit (.bool true)], args := [d1, d2, d3, d4] }
  | _ => none }
def plainTellsRow : OpenClaim := { program := "ytnfmpladdfgadaa", sum := "c3c70c2ba12874cd3aee6124eefcbfc4a6594a11df2f002a24968d0353160d58", func := "symbolon/symbolonlaw07.PlainTells", spec := "plainTells", unfollowed := true, recurses := true, apart := false }
def PlainTellsSaid : Prop := plainTellsRow.holds Try.pinned (OpenSpec.ofChange plainTellsSpec)

/-- ITS FALSE NEIGHBOUR: 'it returns false'. Refute it at one input. -/
def plainTellsWrong : ChangeSpec := { name := "plainTells", fn := fun _ => fun
  | [d1, d2, d3, d4] => { results := [.lit (.bool false)], args := [d1, d2, d3, d4] }
  | _ => none }
def PlainTellsWrongFalsely : Prop := plainTellsRow.holds Try.pinned (OpenSpec.ofChange plainTellsWrong)

/-- 'symbolonlaw08.GatesTells': WHATEVER THE INPUT: true; the input reads as it did. -/
def gatesTellsSpec : ChangeSpec := { name := "gatesTells", fn := fun _ => fun
  | [d1, d2, d3, d4, d5, d6] => { results := [.lit (.bool true)], args := [d1, d2, d3, d4, d5, d6] }
  | _ => none }
def gatesTellsRow : OpenClaim := { program := "ytnfmpladdfgadaa", sum := "c3c70c2ba12874cd3aee6124eefcbfc4a6594a11df2f002a24968d0353160d58", func := "symbolon/symbolonlaw08.GatesTells", spec := "gatesTells", unfollowed := true, recurses := true, apart := false }
def GatesTellsSaid : Prop := gatesTellsRow.holds Try.pinned (OpenSpec.ofChange gatesTellsSpec)

/-- ITS FALSE NEIGHBOUR: 'it returns false'. Refute it at one input. -/
def gatesTellsWrong : ChangeSpec := { name := "gatesTells", fn := fun _ => fun
  | [d1, d2, d3, d4, d5, d6] => { results := [.lit (.bool false)], args := [d1, d2, d3, d4, d5, d6] }
  | _ => none }
def GatesTellsWrongFalsely : Prop := gatesTellsRow.holds Try.pinned (OpenSpec.ofChange gatesTellsWrong)

/-- 'symbolonlaw08.GatesBack': WHATEVER THE INPUT: true; the input reads as it did. -/
def gatesBackSpec : ChangeSpec := { name := "gatesBack", fn := fun _ => fun
  | [d1, d2, d3, d4, d5] => { results := [.lit (.bool true)], args := [d1, d2, d3, d4, d5] }
  | _ => none }
def gatesBackRow : OpenClaim := { program := "ytnfmpladdfgadaa", sum := "c3c70c2ba12874cd3aee6124eefcbfc4a6594a11df2f002a24968d0353160d58", func := "symbolon/symbolonlaw08.GatesBack", spec := "gatesBack", unfollowed := true, recurses := true, apart := false }
def GatesBackSaid : Prop := gatesBackRow.holds Try.pinned (OpenSpec.ofChange gatesBackSpec)

/-- ITS FALSE NEIGHBOUR: 'it returns false'. Refute it at one input. -/
def gatesBackWrong : ChangeSpec := { name := "gatesBack", fn := fun _ => fun
  | [d1, d2, d3, d4, d5] => { results := [.lit (.bool false)], args := [d1, d2, d3, d4, d5] }
  | _ => none }
def GatesBackWrongFalsely : Prop := gatesBackRow.holds Try.pinned (OpenSpec.ofChange gatesBackWrong)

/-- 'symbolonlaw08.GatesTerms': WHATEVER THE INPUT: true; the input reads as it did. -/
def gatesTermsSpec : ChangeSpec := { name := "gatesTerms", fn := fun _ => fun
  | [d1, d2, d3] => { results := [.lit (.bool true)], args := [d1, d2, d3] }
  | _ => none }
def gatesTermsRow : OpenClaim := { program := "ytnfmpladdfgadaa", sum := "c3c70c2ba12874cd3aee6124eefcbfc4a6594a11df2f002a24968d0353160d58", func := "symbolon/symbolonlaw08.GatesTerms", spec := "gatesTerms", unfollowed := true, recurses := true, apart := false }
def GatesTermsSaid : Prop := gatesTermsRow.holds Try.pinned (OpenSpec.ofChange gatesTermsSpec)

/-- ITS FALSE NEIGHBOUR: 'it returns false'. Refute it at one input. -/
def gatesTermsWrong : ChangeSpec := { name := "gatesTerms", fn := fun _ => fun
  | [d1, d2, d3] => { results := [.lit (.bool false)], args := [d1, d2, d3] }
  | _ => none }
def GatesTermsWrongFalsely : Prop := gatesTermsRow.holds Try.pinned (OpenSpec.ofChange gatesTermsWrong)

/-- 'symbolonlaw08.GatesRow': WHATEVER THE INPUT: true; the input reads as it did. -/
def gatesRowSpec : ChangeSpec := { name := "gatesRow", fn := fun _ => fun
  | [d] => { results := [.lit (.bool true)], args := [d] }
  | _ => none }
def gatesRowRow : OpenClaim := { program := "ytnfmpladdfgadaa", sum := "c3c70c2ba12874cd3aee6124eefcbfc4a6594a11df2f002a24968d0353160d58", func := "symbolon/symbolonlaw08.GatesRow", spec := "gatesRow", unfollowed := true, recurses := true, apart := false }
def GatesRowSaid : Prop := gatesRowRow.holds Try.pinned (OpenSpec.ofChange gatesRowSpec)

/-- ITS FALSE NEIGHBOUR: 'it returns false'. Refute it at one input. -/
def gatesRowWrong : ChangeSpec := { name := "gatesRow", fn := fun _ => fun
  | [d] => { results := [.lit (.bool false)], args := [d] }
  | _ => none }
def GatesRowWrongFalsely : Prop := gatesRowRow.holds Try.pinned (OpenSpec.ofChange gatesRowWrong)

/-- 'symbolonlaw08.GatesAhead': WHATEVER THE INPUT: true; the input reads as it did. -/
def gatesAheadSpec : ChangeSpec := { name := "gatesAhead", fn := fun _ => fun
  | [d1, d2, d3] => { results := [.lit (.bool true)], args := [d1, d2, d3] }
  | _ => none }
def gatesAheadRow : OpenClaim := { program := "ytnfmpladdfgadaa", sum := "c3c70c2ba12874cd3aee6124eefcbfc4a6594a11df2f002a24968d0353160d58", func := "symbolon/symbolonlaw08.GatesAhead", spec := "gatesAhead", unfollowed := true, recurses := true, apart := false }
def GatesAheadSaid : Prop := gatesAheadRow.holds Try.pinned (OpenSpec.ofChange gatesAheadSpec)

/-- ITS FALSE NEIGHBOUR: 'it returns false'. Refute it at one input. -/
def gatesAheadWrong : ChangeSpec := { name := "gatesAhead", fn := fun _ => fun
  | [d1, d2, d3] => { results := [.lit (.bool false)], args := [d1, d2, d3] }
  | _ => none }
def GatesAheadWrongFalsely : Prop := gatesAheadRow.holds Try.pinned (OpenSpec.ofChange gatesAheadWrong)

/-- 'symbolonlaw08.GatesOrder': WHATEVER THE INPUT: true; the input reads as it did. -/
def gatesOrderSpec : ChangeSpec := { name := "gatesOrder", fn := fun _ => fun
  | [d1, d2, d3] => { results := [.lit (.bool true)], args := [d1, d2, d3] }
  | _ => none }
def gatesOrderRow : OpenClaim := { program := "ytnfmpladdfgadaa", sum := "c3c70c2ba12874cd3aee6124eefcbfc4a6594a11df2f002a24968d0353160d58", func := "symbolon/symbolonlaw08.GatesOrder", spec := "gatesOrder", unfollowed := true, recurses := true, apart := false }
def GatesOrderSaid : Prop := gatesOrderRow.holds Try.pinned (OpenSpec.ofChange gatesOrderSpec)

/-- ITS FALSE NEIGHBOUR: 'it returns false'. Refute it at one input. -/
def gatesOrderWrong : ChangeSpec := { name := "gatesOrder", fn := fun _ => fun
  | [d1, d2, d3] => { results := [.lit (.bool false)], args := [d1, d2, d3] }
  | _ => none }
def GatesOrderWrongFalsely : Prop := gatesOrderRow.holds Try.pinned (OpenSpec.ofChange gatesOrderWrong)

/- THE SECOND FORM. 'bulk': how many values and letters a reading holds, each counted each time it is reached (what is shared counts as often as it is met; a slice's spare places count too). A statement '..UptoSaid' is the law's where the arguments, and the package variables that the reading takes, are together of bulk at most 1048576: NARROWER than '..Said'. Prove '..Said' where nothing that the law and all that it calls make is longer than what came in: it says more and counts as full. Else prove '..UptoSaid'. A law counts once. -/
mutual
def uptoBulk {H : Type} : DataW H → Nat
  | .lit (.string bytes) => bytes.length + 1
  | .lit _ => 1
  | .nil => 1
  | .ptr d => uptoBulk d + 1
  | .slice elems spare => uptoBulkAll elems + uptoBulkAll spare + 1
  | .agg parts => uptoBulkAll parts + 1
  | .iface _ d => uptoBulk d + 1
  | .map entries => uptoBulkEntries entries + 1
  | .held _ => 1
def uptoBulkAll {H : Type} : List (DataW H) → Nat
  | [] => 0
  | d :: r => uptoBulk d + uptoBulkAll r
def uptoBulkEntries {H : Type} : List (Lit × DataW H) → Nat
  | [] => 0
  | x :: r => uptoBulkEntry x + uptoBulkEntries r
def uptoBulkEntry {H : Type} : Lit × DataW H → Nat
  | (.string bytes, d) => bytes.length + uptoBulk d + 1
  | (_, d) => uptoBulk d + 1
 end
def uptoSmall : (H : Type) → List (DataW H) → Bool := fun _ ds => decide (uptoBulkAll ds ≤ 1048576)
def OpenSpec.upto (s : _root_.Go.ChangeSpec) : _root_.Go.OpenSpec := { _root_.Go.OpenSpec.ofChange s with cond := some uptoSmall }

/-- 'symbolonlaw05.CheckTells', WHERE WHAT IT READS IS OF BULK AT MOST 1048576: true; the input reads as it did. -/
def checkTellsUptoRow : OpenClaim := { program := "ytnfmpladdfgadaa", sum := "c3c70c2ba12874cd3aee6124eefcbfc4a6594a11df2f002a24968d0353160d58", func := "symbolon/symbolonlaw05.CheckTells", spec := "checkTells", unfollowed := true, recurses := true, apart := false, narrowed := true }
def CheckTellsUptoSaid : Prop := checkTellsUptoRow.holds Try.pinned (OpenSpec.upto checkTellsSpec)

/-- 'symbolonlaw06.TermsTells', WHERE WHAT IT READS IS OF BULK AT MOST 1048576: true; the input reads as it did. -/
def termsTellsUptoRow : OpenClaim := { program := "ytnfmpladdfgadaa", sum := "c3c70c2ba12874cd3aee6124eefcbfc4a6594a11df2f002a24968d0353160d58", func := "symbolon/symbolonlaw06.TermsTells", spec := "termsTells", unfollowed := true, recurses := true, apart := false, narrowed := true }
def TermsTellsUptoSaid : Prop := termsTellsUptoRow.holds Try.pinned (OpenSpec.upto termsTellsSpec)

/-- 'symbolonlaw07.PlainTells', WHERE WHAT IT READS IS OF BULK AT MOST 1048576: true; the input reads as it did. -/
def plainTellsUptoRow : OpenClaim := { program := "ytnfmpladdfgadaa", sum := "c3c70c2ba12874cd3aee6124eefcbfc4a6594a11df2f002a24968d0353160d58", func := "symbolon/symbolonlaw07.PlainTells", spec := "plainTells", unfollowed := true, recurses := true, apart := false, narrowed := true }
def PlainTellsUptoSaid : Prop := plainTellsUptoRow.holds Try.pinned (OpenSpec.upto plainTellsSpec)

/-- 'symbolonlaw08.GatesTells', WHERE WHAT IT READS IS OF BULK AT MOST 1048576: true; the input reads as it did. -/
def gatesTellsUptoRow : OpenClaim := { program := "ytnfmpladdfgadaa", sum := "c3c70c2ba12874cd3aee6124eefcbfc4a6594a11df2f002a24968d0353160d58", func := "symbolon/symbolonlaw08.GatesTells", spec := "gatesTells", unfollowed := true, recurses := true, apart := false, narrowed := true }
def GatesTellsUptoSaid : Prop := gatesTellsUptoRow.holds Try.pinned (OpenSpec.upto gatesTellsSpec)

/-- 'symbolonlaw08.GatesBack', WHERE WHAT IT READS IS OF BULK AT MOST 1048576: true; the input reads as it did. -/
def gatesBackUptoRow : OpenClaim := { program := "ytnfmpladdfgadaa", sum := "c3c70c2ba12874cd3aee6124eefcbfc4a6594a11df2f002a24968d0353160d58", func := "symbolon/symbolonlaw08.GatesBack", spec := "gatesBack", unfollowed := true, recurses := true, apart := false, narrowed := true }
def GatesBackUptoSaid : Prop := gatesBackUptoRow.holds Try.pinned (OpenSpec.upto gatesBackSpec)

/-- 'symbolonlaw08.GatesTerms', WHERE WHAT IT READS IS OF BULK AT MOST 1048576: true; the input reads as it did. -/
def gatesTermsUptoRow : OpenClaim := { program := "ytnfmpladdfgadaa", sum := "c3c70c2ba12874cd3aee6124eefcbfc4a6594a11df2f002a24968d0353160d58", func := "symbolon/symbolonlaw08.GatesTerms", spec := "gatesTerms", unfollowed := true, recurses := true, apart := false, narrowed := true }
def GatesTermsUptoSaid : Prop := gatesTermsUptoRow.holds Try.pinned (OpenSpec.upto gatesTermsSpec)

/-- 'symbolonlaw08.GatesRow', WHERE WHAT IT READS IS OF BULK AT MOST 1048576: true; the input reads as it did. -/
def gatesRowUptoRow : OpenClaim := { program := "ytnfmpladdfgadaa", sum := "c3c70c2ba12874cd3aee6124eefcbfc4a6594a11df2f002a24968d0353160d58", func := "symbolon/symbolonlaw08.GatesRow", spec := "gatesRow", unfollowed := true, recurses := true, apart := false, narrowed := true }
def GatesRowUptoSaid : Prop := gatesRowUptoRow.holds Try.pinned (OpenSpec.upto gatesRowSpec)

/-- 'symbolonlaw08.GatesAhead', WHERE WHAT IT READS IS OF BULK AT MOST 1048576: true; the input reads as it did. -/
def gatesAheadUptoRow : OpenClaim := { program := "ytnfmpladdfgadaa", sum := "c3c70c2ba12874cd3aee6124eefcbfc4a6594a11df2f002a24968d0353160d58", func := "symbolon/symbolonlaw08.GatesAhead", spec := "gatesAhead", unfollowed := true, recurses := true, apart := false, narrowed := true }
def GatesAheadUptoSaid : Prop := gatesAheadUptoRow.holds Try.pinned (OpenSpec.upto gatesAheadSpec)

/-- 'symbolonlaw08.GatesOrder', WHERE WHAT IT READS IS OF BULK AT MOST 1048576: true; the input reads as it did. -/
def gatesOrderUptoRow : OpenClaim := { program := "ytnfmpladdfgadaa", sum := "c3c70c2ba12874cd3aee6124eefcbfc4a6594a11df2f002a24968d0353160d58", func := "symbolon/symbolonlaw08.GatesOrder", spec := "gatesOrder", unfollowed := true, recurses := true, apart := false, narrowed := true }
def GatesOrderUptoSaid : Prop := gatesOrderUptoRow.holds Try.pinned (OpenSpec.upto gatesOrderSpec)

end Rows
end Go.Proofs.Ytnfmpladdfgadaa
