/-
  No cell of these rows narrows 'for every input' (looked for: loops, veiled, ifaces, maps, wideKeys, modest, calm, conditions, laid).
  DERIVED. THE GIVEN ROWS OF THIS SEAT. 6 by the template 'for every input the law returns true; each argument reads behind the call as it read before'; 0 by the template 'total and deterministic' (their statements: YtnbnfkgoneinfaaTotals.lean).
  GIVEN WITH THE SEED: the statements are not yours to turn. If you find one false, say at which input.
  Laid BY PROGRAM, IN A SANDBOX (cutbox-rows.mjs): the forced cells as the released guide's own fill.sh prints them over the translation ada11b4d44f45b58… (all of the seat's roots in one cut). By AI agents, Wed Nov 11 2026. No macro, syntax, notation, axiom, sorry.
-/
import Derived.Test.YtnbnfkgoneinfaaChecked
import GoSem.Claim
import GoSem.ClaimJoined
import GoSem.ClaimMapViews
import Derived.JoinedTies
import Derived.KernelRfl
namespace Go.Proofs.Ytnbnfkgoneinfaa
/- THE CELL 'sum', in the pinned program and in every row, IS THE sha256 OF THE DUMP (.gsa) THAT YtnbnfkgoneinfaaProg.lean LOADS. Nothing in Lean hashes anything: it is a label: what it is worth is what the hold of that sum in a sandbox is worth. -/
noncomputable def Try.pinned : Pinned := { name := "ytnbnfkgoneinfaa", sum := "ada11b4d44f45b5876f86c879aa006c538baea42c8578efe17489d75100b95a7", checked := Try.checked }
namespace Rows
def none {H : Type} : Left H := { results := [], args := [] }

/-- 'symbolonlaw01.RingTells': WHATEVER THE INPUT: true; the input reads as it did. -/
def ringTellsSpec : ChangeSpec := { name := "ringTells", fn := fun _ => fun
  | [d1, d2, d3] => { results := [.lit (.bool true)], args := [d1, d2, d3] }
  | _ => none }
def ringTellsRow : OpenClaim := { program := "ytnbnfkgoneinfaa", sum := "ada11b4d44f45b5876f86c879aa006c538baea42c8578efe17489d75100b95a7", func := "symbolon/symbolonlaw01.RingTells", spec := "ringTells", unfollowed := true, recurses := true, apart := false }
def RingTellsSaid : Prop := ringTellsRow.holds Try.pinned (OpenSpec.ofChange ringTellsSpec)

/-- ITS FALSE NEIGHBOUR: 'it returns false'. Refute it at one input. -/
def ringTellsWrong : ChangeSpec := { name := "ringTells", fn := fun _ => fun
  | [d1, d2, d3] => { results := [.lit (.bool false)], args := [d1, d2, d3] }
  | _ => none }
def RingTellsWrongFalsely : Prop := ringTellsRow.holds Try.pinned (OpenSpec.ofChange ringTellsWrong)

/-- 'symbolonlaw09.StreamTells': WHATEVER THE INPUT: true; the input reads as it did. -/
def streamTellsSpec : ChangeSpec := { name := "streamTells", fn := fun _ => fun
  | [d1, d2, d3, d4] => { results := [.lit (.bool true)], args := [d1, d2, d3, d4] }
  | _ => none }
def streamTellsRow : OpenClaim := { program := "ytnbnfkgoneinfaa", sum := "ada11b4d44f45b5876f86c879aa006c538baea42c8578efe17489d75100b95a7", func := "symbolon/symbolonlaw09.StreamTells", spec := "streamTells", unfollowed := true, recurses := true, apart := false }
def StreamTellsSaid : Prop := streamTellsRow.holds Try.pinned (OpenSpec.ofChange streamTellsSpec)

/-- ITS FALSE NEIGHBOUR: 'it returns false'. Refute it at one input. -/
def streamTellsWrong : ChangeSpec := { name := "streamTells", fn := fun _ => fun
  | [d1, d2, d3, d4] => { results := [.lit (.bool false)], args := [d1, d2, d3, d4] }
  | _ => none }
def StreamTellsWrongFalsely : Prop := streamTellsRow.holds Try.pinned (OpenSpec.ofChange streamTellsWrong)

/-- 'symbolonlaw09.StreamBack': WHATEVER THE INPUT: true; the input reads as it did. -/
def streamBackSpec : ChangeSpec := { name := "streamBack", fn := fun _ => fun
  | [d1, d2, d3] => { results := [.lit (.bool true)], args := [d1, d2, d3] }
  | _ => none }
def streamBackRow : OpenClaim := { program := "ytnbnfkgoneinfaa", sum := "ada11b4d44f45b5876f86c879aa006c538baea42c8578efe17489d75100b95a7", func := "symbolon/symbolonlaw09.StreamBack", spec := "streamBack", unfollowed := true, recurses := true, apart := false }
def StreamBackSaid : Prop := streamBackRow.holds Try.pinned (OpenSpec.ofChange streamBackSpec)

/-- ITS FALSE NEIGHBOUR: 'it returns false'. Refute it at one input. -/
def streamBackWrong : ChangeSpec := { name := "streamBack", fn := fun _ => fun
  | [d1, d2, d3] => { results := [.lit (.bool false)], args := [d1, d2, d3] }
  | _ => none }
def StreamBackWrongFalsely : Prop := streamBackRow.holds Try.pinned (OpenSpec.ofChange streamBackWrong)

/-- 'symbolonlaw09.StreamApart': WHATEVER THE INPUT: true; the input reads as it did. -/
def streamApartSpec : ChangeSpec := { name := "streamApart", fn := fun _ => fun
  | [d1, d2, d3, d4] => { results := [.lit (.bool true)], args := [d1, d2, d3, d4] }
  | _ => none }
def streamApartRow : OpenClaim := { program := "ytnbnfkgoneinfaa", sum := "ada11b4d44f45b5876f86c879aa006c538baea42c8578efe17489d75100b95a7", func := "symbolon/symbolonlaw09.StreamApart", spec := "streamApart", unfollowed := true, recurses := true, apart := false }
def StreamApartSaid : Prop := streamApartRow.holds Try.pinned (OpenSpec.ofChange streamApartSpec)

/-- ITS FALSE NEIGHBOUR: 'it returns false'. Refute it at one input. -/
def streamApartWrong : ChangeSpec := { name := "streamApart", fn := fun _ => fun
  | [d1, d2, d3, d4] => { results := [.lit (.bool false)], args := [d1, d2, d3, d4] }
  | _ => none }
def StreamApartWrongFalsely : Prop := streamApartRow.holds Try.pinned (OpenSpec.ofChange streamApartWrong)

/-- 'symbolonlaw09.StreamRow': WHATEVER THE INPUT: true; the input reads as it did. -/
def streamRowSpec : ChangeSpec := { name := "streamRow", fn := fun _ => fun
  | [d1, d2, d3, d4] => { results := [.lit (.bool true)], args := [d1, d2, d3, d4] }
  | _ => none }
def streamRowRow : OpenClaim := { program := "ytnbnfkgoneinfaa", sum := "ada11b4d44f45b5876f86c879aa006c538baea42c8578efe17489d75100b95a7", func := "symbolon/symbolonlaw09.StreamRow", spec := "streamRow", unfollowed := true, recurses := true, apart := false }
def StreamRowSaid : Prop := streamRowRow.holds Try.pinned (OpenSpec.ofChange streamRowSpec)

/-- ITS FALSE NEIGHBOUR: 'it returns false'. Refute it at one input. -/
def streamRowWrong : ChangeSpec := { name := "streamRow", fn := fun _ => fun
  | [d1, d2, d3, d4] => { results := [.lit (.bool false)], args := [d1, d2, d3, d4] }
  | _ => none }
def StreamRowWrongFalsely : Prop := streamRowRow.holds Try.pinned (OpenSpec.ofChange streamRowWrong)

/-- 'symbolonlaw09.StreamShift': WHATEVER THE INPUT: true; the input reads as it did. -/
def streamShiftSpec : ChangeSpec := { name := "streamShift", fn := fun _ => fun
  | [d1, d2, d3, d4] => { results := [.lit (.bool true)], args := [d1, d2, d3, d4] }
  | _ => none }
def streamShiftRow : OpenClaim := { program := "ytnbnfkgoneinfaa", sum := "ada11b4d44f45b5876f86c879aa006c538baea42c8578efe17489d75100b95a7", func := "symbolon/symbolonlaw09.StreamShift", spec := "streamShift", unfollowed := true, recurses := true, apart := false }
def StreamShiftSaid : Prop := streamShiftRow.holds Try.pinned (OpenSpec.ofChange streamShiftSpec)

/-- ITS FALSE NEIGHBOUR: 'it returns false'. Refute it at one input. -/
def streamShiftWrong : ChangeSpec := { name := "streamShift", fn := fun _ => fun
  | [d1, d2, d3, d4] => { results := [.lit (.bool false)], args := [d1, d2, d3, d4] }
  | _ => none }
def StreamShiftWrongFalsely : Prop := streamShiftRow.holds Try.pinned (OpenSpec.ofChange streamShiftWrong)

/- THE SECOND FORM. 'bulk': how many values and letters a reading holds, each counted each time it is reached (what is shared counts as often as it is met; a slice's spare places count too). A statement '..UptoSaid' is the law's where the arguments, and the package variables that the reading takes, are together of bulk at most 1048576: NARROWER than '..Said'. Prove '..Said' where nothing that the law and all that it calls make is longer than what came in: it says more and counts as full. Else prove '..UptoSaid'. A law counts once. -/
mutual
def uptoBulk {H : Type} : DataW H → Nat
  | .lit (.string bytes) => bytes.length + 1
  | .lit _ => 1
  | .nil => 1
  | .ptr d => uptoBulk d + 1
  | .slice elems spare => uptoBulkAll elems + uptoBulkAll spare + 1
  | .agg parts => uptoBulkAll parts + 1
  | .iface _ d => uptoBulk d + 1
  | .map entries => uptoBulkEntries entries + 1
  | .held _ => 1
def uptoBulkAll {H : Type} : List (DataW H) → Nat
  | [] => 0
  | d :: r => uptoBulk d + uptoBulkAll r
def uptoBulkEntries {H : Type} : List (Lit × DataW H) → Nat
  | [] => 0
  | x :: r => uptoBulkEntry x + uptoBulkEntries r
def uptoBulkEntry {H : Type} : Lit × DataW H → Nat
  | (.string bytes, d) => bytes.length + uptoBulk d + 1
  | (_, d) => uptoBulk d + 1
 end
def uptoSmall : (H : Type) → List (DataW H) → Bool := fun _ ds => decide (uptoBulkAll ds ≤ 1048576)
def OpenSpec.upto (s : _root_.Go.ChangeSpec) : _root_.Go.OpenSpec := { _root_.Go.OpenSpec.ofChange s with cond := some uptoSmall }

/-- 'symbolonlaw01.RingTells', WHERE WHAT IT READS IS OF BULK AT MOST 1048576: true; the input reads as it did. -/
def ringTellsUptoRow : OpenClaim := { program := "ytnbnfkgoneinfaa", sum := "ada11b4d44f45b5876f86c879aa006c538baea42c8578efe17489d75100b95a7", func := "symbolon/symbolonlaw01.RingTells", spec := "ringTells", unfollowed := true, recurses := true, apart := false, narrowed := true }
def RingTellsUptoSaid : Prop := ringTellsUptoRow.holds Try.pinned (OpenSpec.upto ringTellsSpec)

/-- 'symbolonlaw09.StreamTells', WHERE WHAT IT READS IS OF BULK AT MOST 1048576: true; the input reads as it did. -/
def streamTellsUptoRow : OpenClaim := { program := "ytnbnfkgoneinfaa", sum := "ada11b4d44f45b5876f86c879aa006c538baea42c8578efe17489d75100b95a7", func := "symbolon/symbolonlaw09.StreamTells", spec := "streamTells", unfollowed := true, recurses := true, apart := false, narrowed := true }
def StreamTellsUptoSaid : Prop := streamTellsUptoRow.holds Try.pinned (OpenSpec.upto streamTellsSpec)

/-- 'symbolonlaw09.StreamBack', WHERE WHAT IT READS IS OF BULK AT MOST 1048576: true; the input reads as it did. -/
def streamBackUptoRow : OpenClaim := { program := "ytnbnfkgoneinfaa", sum := "ada11b4d44f45b5876f86c879aa006c538baea42c8578efe17489d75100b95a7", func := "symbolon/symbolonlaw09.StreamBack", spec := "streamBack", unfollowed := true, recurses := true, apart := false, narrowed := true }
def StreamBackUptoSaid : Prop := streamBackUptoRow.holds Try.pinned (OpenSpec.upto streamBackSpec)

/-- 'symbolonlaw09.StreamApart', WHERE WHAT IT READS IS OF BULK AT MOST 1048576: true; the input reads as it did. -/
def streamApartUptoRow : OpenClaim := { program := "ytnbnfkgoneinfaa", sum := "ada11b4d44f45b5876f86c879aa006c538baea42c8578efe17489d75100b95a7", func := "symbolon/symbolonlaw09.StreamApart", spec := "streamApart", unfollowed := true, recurses := true, apart := false, narrowed := true }
def StreamApartUptoSaid : Prop := streamApartUptoRow.holds Try.pinned (OpenSpec.upto streamApartSpec)

/-- 'symbolonlaw09.StreamRow', WHERE WHAT IT READS IS OF BULK AT MOST 1048576: true; the input reads as it did. -/
def streamRowUptoRow : OpenClaim := { program := "ytnbnfkgoneinfaa", sum := "ada11b4d44f45b5876f86c879aa006c538baea42c8578efe17489d75100b95a7", func := "symbolon/symbolonlaw09.StreamRow", spec := "streamRow", unfollowed := true, recurses := true, apart := false, narrowed := true }
def StreamRowUptoSaid : Prop := streamRowUptoRow.holds Try.pinned (OpenSpec.upto streamRowSpec)

/-- 'symbolonlaw09.StreamShift', WHERE WHAT IT READS IS OF BULK AT MOST 1048576: true; the input reads as it did. -/
def streamShiftUptoRow : OpenClaim := { program := "ytnbnfkgoneinfaa", sum := "ada11b4d44f45b5876f86c879aa006c538baea42c8578efe17489d75100b95a7", func := "symbolon/symbolonlaw09.StreamShift", spec := "streamShift", unfollowed := true, recurses := true, apart := false, narrowed := true }
def StreamShiftUptoSaid : Prop := streamShiftUptoRow.holds Try.pinned (OpenSpec.upto streamShiftSpec)

end Rows
end Go.Proofs.Ytnbnfkgoneinfaa
