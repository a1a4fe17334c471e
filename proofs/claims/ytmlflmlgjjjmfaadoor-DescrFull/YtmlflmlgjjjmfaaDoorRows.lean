/-
  NARROWER THAN 'FOR EVERY INPUT', by the rows' own cells (each row's printed sentence says how): DescrTells: laid · DescrBack: laid · DescrPrints: laid · DescrCut: laid · DescrFull: laid · DescrWrong: laid.
  DERIVED. THE GIVEN ROWS OF THIS SEAT. 6 by the template 'for every input the law returns true; each argument reads behind the call as it read before'; 0 by the template 'total and deterministic' (their statements: YtmlflmlgjjjmfaaDoorTotals.lean).
  GIVEN WITH THE SEED: the statements are not yours to turn. If you find one false, say at which input.
  Laid BY PROGRAM, IN A SANDBOX (cutbox-rows.mjs): the forced cells as the released guide's own fill.sh prints them over the translation ec158899eca29e19… (all of the seat's roots in one cut). By AI agents, Wed Nov 11 2026. No macro, syntax, notation, axiom, sorry.
-/
import Derived.Test.YtmlflmlgjjjmfaaDoorChecked
import GoSem.Claim
import GoSem.ClaimJoined
import GoSem.ClaimMapViews
import Derived.JoinedTies
import Derived.KernelRfl
namespace Go.Proofs.YtmlflmlgjjjmfaaDoor
/- THE CELL 'sum', in the pinned program and in every row, IS THE sha256 OF THE DUMP (.gsa) THAT YtmlflmlgjjjmfaaDoorProg.lean LOADS. Nothing in Lean hashes anything: it is a label: what it is worth is what the hold of that sum in a sandbox is worth. -/
noncomputable def Tryd.pinned : Pinned := { name := "ytmlflmlgjjjmfaadoor", sum := "ec158899eca29e192e0ccd0f37fc546c561a0458a4db88a0166f2228617e48b4", checked := Tryd.checked }
namespace Rows
def none {H : Type} : Left H := { results := [], args := [] }

/- WHAT THE LISTED PACKAGE-LEVEL VARIABLES READ AS WHEN THE CALL BEGINS. Each datum BY PROGRAM (the guide's laid-datum.mjs) off the statement by which the dump's own 'gosem.cut.vars' lays the variable. In a bare row this is a premise. The card (YtmlflmlgjjjmfaaDoorCards.lean) ties it to the program's text. -/
def laid_math_bits_deBruijn32tab {H : Type} : DataW H := .agg [.lit (.int .u8 0), .lit (.int .u8 1), .lit (.int .u8 28), .lit (.int .u8 2), .lit (.int .u8 29), .lit (.int .u8 14), .lit (.int .u8 24), .lit (.int .u8 3), .lit (.int .u8 30), .lit (.int .u8 22), .lit (.int .u8 20), .lit (.int .u8 15), .lit (.int .u8 25), .lit (.int .u8 17), .lit (.int .u8 4), .lit (.int .u8 8), .lit (.int .u8 31), .lit (.int .u8 27), .lit (.int .u8 13), .lit (.int .u8 23), .lit (.int .u8 21), .lit (.int .u8 19), .lit (.int .u8 16), .lit (.int .u8 7), .lit (.int .u8 26), .lit (.int .u8 12), .lit (.int .u8 18), .lit (.int .u8 6), .lit (.int .u8 11), .lit (.int .u8 5), .lit (.int .u8 10), .lit (.int .u8 9)]
def laid_math_bits_deBruijn64tab {H : Type} : DataW H := .agg [.lit (.int .u8 0), .lit (.int .u8 1), .lit (.int .u8 56), .lit (.int .u8 2), .lit (.int .u8 57), .lit (.int .u8 49), .lit (.int .u8 28), .lit (.int .u8 3), .lit (.int .u8 61), .lit (.int .u8 58), .lit (.int .u8 42), .lit (.int .u8 50), .lit (.int .u8 38), .lit (.int .u8 29), .lit (.int .u8 17), .lit (.int .u8 4), .lit (.int .u8 62), .lit (.int .u8 47), .lit (.int .u8 59), .lit (.int .u8 36), .lit (.int .u8 45), .lit (.int .u8 43), .lit (.int .u8 51), .lit (.int .u8 22), .lit (.int .u8 53), .lit (.int .u8 39), .lit (.int .u8 33), .lit (.int .u8 30), .lit (.int .u8 24), .lit (.int .u8 18), .lit (.int .u8 12), .lit (.int .u8 5), .lit (.int .u8 63), .lit (.int .u8 55), .lit (.int .u8 48), .lit (.int .u8 27), .lit (.int .u8 60), .lit (.int .u8 41), .lit (.int .u8 37), .lit (.int .u8 16), .lit (.int .u8 46), .lit (.int .u8 35), .lit (.int .u8 44), .lit (.int .u8 21), .lit (.int .u8 52), .lit (.int .u8 32), .lit (.int .u8 23), .lit (.int .u8 11), .lit (.int .u8 54), .lit (.int .u8 26), .lit (.int .u8 40), .lit (.int .u8 15), .lit (.int .u8 34), .lit (.int .u8 20), .lit (.int .u8 31), .lit (.int .u8 10), .lit (.int .u8 25), .lit (.int .u8 14), .lit (.int .u8 19), .lit (.int .u8 9), .lit (.int .u8 13), .lit (.int .u8 8), .lit (.int .u8 7), .lit (.int .u8 6)]
def laid_internal_strconv_uint64pow10 {H : Type} : DataW H := .agg [.lit (.int .u64 1), .lit (.int .u64 10), .lit (.int .u64 100), .lit (.int .u64 1000), .lit (.int .u64 10000), .lit (.int .u64 100000), .lit (.int .u64 1000000), .lit (.int .u64 10000000), .lit (.int .u64 100000000), .lit (.int .u64 1000000000), .lit (.int .u64 10000000000), .lit (.int .u64 100000000000), .lit (.int .u64 1000000000000), .lit (.int .u64 10000000000000), .lit (.int .u64 100000000000000), .lit (.int .u64 1000000000000000), .lit (.int .u64 10000000000000000), .lit (.int .u64 100000000000000000), .lit (.int .u64 1000000000000000000), .lit (.int .u64 10000000000000000000)]
def laid_symbolon_descr_kinds {H : Type} : DataW H := .agg [.lit (.string []), .lit (.string [99, 111, 110, 118]), .lit (.string [115, 113, 117, 97, 114, 101]), .lit (.string [112, 111, 111, 108]), .lit (.string [100, 101, 110, 115, 101])]

/-- 'symbolonlaw04.DescrTells': WHATEVER THE INPUT: true; the input reads as it did. -/
def descrTellsSpec : ChangeSpec := { name := "descrTells", fn := fun _ => fun
  | [d1, d2] => { results := [.lit (.bool true)], args := [d1, d2] }
  | _ => none }
def descrTellsRow : OpenClaim := { program := "ytmlflmlgjjjmfaadoor", sum := "ec158899eca29e192e0ccd0f37fc546c561a0458a4db88a0166f2228617e48b4", func := "symbolon/symbolonlaw04.DescrTells", spec := "descrTells", inPlace := ["internal/abi.NoEscape"], unfollowed := true, recurses := true, named := ["internal/strconv.uint64pow10", "math/bits.deBruijn32tab", "math/bits.deBruijn64tab", "symbolon/descr.kinds"], apart := false, laid := [("math/bits.deBruijn32tab", laid_math_bits_deBruijn32tab), ("math/bits.deBruijn64tab", laid_math_bits_deBruijn64tab), ("internal/strconv.uint64pow10", laid_internal_strconv_uint64pow10), ("symbolon/descr.kinds", laid_symbolon_descr_kinds)] }
def DescrTellsSaid : Prop := descrTellsRow.holds Tryd.pinned (OpenSpec.ofChange descrTellsSpec)

/-- ITS FALSE NEIGHBOUR: 'it returns false'. Refute it at one input. -/
def descrTellsWrong : ChangeSpec := { name := "descrTells", fn := fun _ => fun
  | [d1, d2] => { results := [.lit (.bool false)], args := [d1, d2] }
  | _ => none }
def DescrTellsWrongFalsely : Prop := descrTellsRow.holds Tryd.pinned (OpenSpec.ofChange descrTellsWrong)

/-- 'symbolonlaw04.DescrBack': WHATEVER THE INPUT: true; the input reads as it did. -/
def descrBackSpec : ChangeSpec := { name := "descrBack", fn := fun _ => fun
  | [d] => { results := [.lit (.bool true)], args := [d] }
  | _ => none }
def descrBackRow : OpenClaim := { program := "ytmlflmlgjjjmfaadoor", sum := "ec158899eca29e192e0ccd0f37fc546c561a0458a4db88a0166f2228617e48b4", func := "symbolon/symbolonlaw04.DescrBack", spec := "descrBack", inPlace := ["internal/abi.NoEscape"], unfollowed := true, recurses := true, named := ["internal/strconv.uint64pow10", "math/bits.deBruijn32tab", "math/bits.deBruijn64tab", "symbolon/descr.kinds"], apart := false, laid := [("math/bits.deBruijn32tab", laid_math_bits_deBruijn32tab), ("math/bits.deBruijn64tab", laid_math_bits_deBruijn64tab), ("internal/strconv.uint64pow10", laid_internal_strconv_uint64pow10), ("symbolon/descr.kinds", laid_symbolon_descr_kinds)] }
def DescrBackSaid : Prop := descrBackRow.holds Tryd.pinned (OpenSpec.ofChange descrBackSpec)

/-- ITS FALSE NEIGHBOUR: 'it returns false'. Refute it at one input. -/
def descrBackWrong : ChangeSpec := { name := "descrBack", fn := fun _ => fun
  | [d] => { results := [.lit (.bool false)], args := [d] }
  | _ => none }
def DescrBackWrongFalsely : Prop := descrBackRow.holds Tryd.pinned (OpenSpec.ofChange descrBackWrong)

/-- 'symbolonlaw04.DescrPrints': WHATEVER THE INPUT: true; the input reads as it did. -/
def descrPrintsSpec : ChangeSpec := { name := "descrPrints", fn := fun _ => fun
  | [d] => { results := [.lit (.bool true)], args := [d] }
  | _ => none }
def descrPrintsRow : OpenClaim := { program := "ytmlflmlgjjjmfaadoor", sum := "ec158899eca29e192e0ccd0f37fc546c561a0458a4db88a0166f2228617e48b4", func := "symbolon/symbolonlaw04.DescrPrints", spec := "descrPrints", inPlace := ["internal/abi.NoEscape"], unfollowed := true, recurses := true, named := ["internal/strconv.uint64pow10", "math/bits.deBruijn32tab", "math/bits.deBruijn64tab", "symbolon/descr.kinds"], apart := false, laid := [("math/bits.deBruijn32tab", laid_math_bits_deBruijn32tab), ("math/bits.deBruijn64tab", laid_math_bits_deBruijn64tab), ("internal/strconv.uint64pow10", laid_internal_strconv_uint64pow10), ("symbolon/descr.kinds", laid_symbolon_descr_kinds)] }
def DescrPrintsSaid : Prop := descrPrintsRow.holds Tryd.pinned (OpenSpec.ofChange descrPrintsSpec)

/-- ITS FALSE NEIGHBOUR: 'it returns false'. Refute it at one input. -/
def descrPrintsWrong : ChangeSpec := { name := "descrPrints", fn := fun _ => fun
  | [d] => { results := [.lit (.bool false)], args := [d] }
  | _ => none }
def DescrPrintsWrongFalsely : Prop := descrPrintsRow.holds Tryd.pinned (OpenSpec.ofChange descrPrintsWrong)

/-- 'symbolonlaw04.DescrCut': WHATEVER THE INPUT: true; the input reads as it did. -/
def descrCutSpec : ChangeSpec := { name := "descrCut", fn := fun _ => fun
  | [d1, d2] => { results := [.lit (.bool true)], args := [d1, d2] }
  | _ => none }
def descrCutRow : OpenClaim := { program := "ytmlflmlgjjjmfaadoor", sum := "ec158899eca29e192e0ccd0f37fc546c561a0458a4db88a0166f2228617e48b4", func := "symbolon/symbolonlaw04.DescrCut", spec := "descrCut", inPlace := ["internal/abi.NoEscape"], unfollowed := true, recurses := true, named := ["internal/strconv.uint64pow10", "math/bits.deBruijn32tab", "math/bits.deBruijn64tab", "symbolon/descr.kinds"], apart := false, laid := [("math/bits.deBruijn32tab", laid_math_bits_deBruijn32tab), ("math/bits.deBruijn64tab", laid_math_bits_deBruijn64tab), ("internal/strconv.uint64pow10", laid_internal_strconv_uint64pow10), ("symbolon/descr.kinds", laid_symbolon_descr_kinds)] }
def DescrCutSaid : Prop := descrCutRow.holds Tryd.pinned (OpenSpec.ofChange descrCutSpec)

/-- ITS FALSE NEIGHBOUR: 'it returns false'. Refute it at one input. -/
def descrCutWrong : ChangeSpec := { name := "descrCut", fn := fun _ => fun
  | [d1, d2] => { results := [.lit (.bool false)], args := [d1, d2] }
  | _ => none }
def DescrCutWrongFalsely : Prop := descrCutRow.holds Tryd.pinned (OpenSpec.ofChange descrCutWrong)

/-- 'symbolonlaw04.DescrFull': WHATEVER THE INPUT: true; the input reads as it did. -/
def descrFullSpec : ChangeSpec := { name := "descrFull", fn := fun _ => fun
  | [d1, d2] => { results := [.lit (.bool true)], args := [d1, d2] }
  | _ => none }
def descrFullRow : OpenClaim := { program := "ytmlflmlgjjjmfaadoor", sum := "ec158899eca29e192e0ccd0f37fc546c561a0458a4db88a0166f2228617e48b4", func := "symbolon/symbolonlaw04.DescrFull", spec := "descrFull", inPlace := ["internal/abi.NoEscape"], unfollowed := true, recurses := true, named := ["internal/strconv.uint64pow10", "math/bits.deBruijn32tab", "math/bits.deBruijn64tab", "symbolon/descr.kinds"], apart := false, laid := [("math/bits.deBruijn32tab", laid_math_bits_deBruijn32tab), ("math/bits.deBruijn64tab", laid_math_bits_deBruijn64tab), ("internal/strconv.uint64pow10", laid_internal_strconv_uint64pow10), ("symbolon/descr.kinds", laid_symbolon_descr_kinds)] }
def DescrFullSaid : Prop := descrFullRow.holds Tryd.pinned (OpenSpec.ofChange descrFullSpec)

/-- ITS FALSE NEIGHBOUR: 'it returns false'. Refute it at one input. -/
def descrFullWrong : ChangeSpec := { name := "descrFull", fn := fun _ => fun
  | [d1, d2] => { results := [.lit (.bool false)], args := [d1, d2] }
  | _ => none }
def DescrFullWrongFalsely : Prop := descrFullRow.holds Tryd.pinned (OpenSpec.ofChange descrFullWrong)

/-- 'symbolonlaw04.DescrWrong': WHATEVER THE INPUT: true; the input reads as it did. -/
def descrWrongSpec : ChangeSpec := { name := "descrWrong", fn := fun _ => fun
  | [d1, d2, d3] => { results := [.lit (.bool true)], args := [d1, d2, d3] }
  | _ => none }
def descrWrongRow : OpenClaim := { program := "ytmlflmlgjjjmfaadoor", sum := "ec158899eca29e192e0ccd0f37fc546c561a0458a4db88a0166f2228617e48b4", func := "symbolon/symbolonlaw04.DescrWrong", spec := "descrWrong", inPlace := ["internal/abi.NoEscape"], unfollowed := true, recurses := true, named := ["internal/strconv.uint64pow10", "math/bits.deBruijn32tab", "math/bits.deBruijn64tab", "symbolon/descr.kinds"], apart := false, laid := [("math/bits.deBruijn32tab", laid_math_bits_deBruijn32tab), ("math/bits.deBruijn64tab", laid_math_bits_deBruijn64tab), ("internal/strconv.uint64pow10", laid_internal_strconv_uint64pow10), ("symbolon/descr.kinds", laid_symbolon_descr_kinds)] }
def DescrWrongSaid : Prop := descrWrongRow.holds Tryd.pinned (OpenSpec.ofChange descrWrongSpec)

/-- ITS FALSE NEIGHBOUR: 'it returns false'. Refute it at one input. -/
def descrWrongWrong : ChangeSpec := { name := "descrWrong", fn := fun _ => fun
  | [d1, d2, d3] => { results := [.lit (.bool false)], args := [d1, d2, d3] }
  | _ => none }
def DescrWrongWrongFalsely : Prop := descrWrongRow.holds Tryd.pinned (OpenSpec.ofChange descrWrongWrong)

/- THE SECOND FORM. 'bulk': how many values and letters a reading holds, each counted each time it is reached (what is shared counts as often as it is met; a slice's spare places count too). A statement '..UptoSaid' is the law's where the arguments, and the package variables that the reading takes, are together of bulk at most 1048576: NARROWER than '..Said'. Prove '..Said' where nothing that the law and all that it calls make is longer than what came in: it says more and counts as full. Else prove '..UptoSaid'. A law counts once. -/
mutual
def uptoBulk {H : Type} : DataW H → Nat
  | .lit (.string bytes) => bytes.length + 1
  | .lit _ => 1
  | .nil => 1
  | .ptr d => uptoBulk d + 1
  | .slice elems spare => uptoBulkAll elems + uptoBulkAll spare + 1
  | .agg parts => uptoBulkAll parts + 1
  | .iface _ d => uptoBulk d + 1
  | .map entries => uptoBulkEntries entries + 1
  | .held _ => 1
def uptoBulkAll {H : Type} : List (DataW H) → Nat
  | [] => 0
  | d :: r => uptoBulk d + uptoBulkAll r
def uptoBulkEntries {H : Type} : List (Lit × DataW H) → Nat
  | [] => 0
  | x :: r => uptoBulkEntry x + uptoBulkEntries r
def uptoBulkEntry {H : Type} : Lit × DataW H → Nat
  | (.string bytes, d) => bytes.length + uptoBulk d + 1
  | (_, d) => uptoBulk d + 1
 end
def uptoSmall : (H : Type) → List (DataW H) → Bool := fun _ ds => decide (uptoBulkAll ds ≤ 1048576)
def OpenSpec.upto (s : _root_.Go.ChangeSpec) : _root_.Go.OpenSpec := { _root_.Go.OpenSpec.ofChange s with cond := some uptoSmall }

/-- 'symbolonlaw04.DescrTells', WHERE WHAT IT READS IS OF BULK AT MOST 1048576: true; the input reads as it did. -/
def descrTellsUptoRow : OpenClaim := { program := "ytmlflmlgjjjmfaadoor", sum := "ec158899eca29e192e0ccd0f37fc546c561a0458a4db88a0166f2228617e48b4", func := "symbolon/symbolonlaw04.DescrTells", spec := "descrTells", inPlace := ["internal/abi.NoEscape"], unfollowed := true, recurses := true, named := ["internal/strconv.uint64pow10", "math/bits.deBruijn32tab", "math/bits.deBruijn64tab", "symbolon/descr.kinds"], apart := false, laid := [("math/bits.deBruijn32tab", laid_math_bits_deBruijn32tab), ("math/bits.deBruijn64tab", laid_math_bits_deBruijn64tab), ("internal/strconv.uint64pow10", laid_internal_strconv_uint64pow10), ("symbolon/descr.kinds", laid_symbolon_descr_kinds)], narrowed := true }
def DescrTellsUptoSaid : Prop := descrTellsUptoRow.holds Tryd.pinned (OpenSpec.upto descrTellsSpec)

/-- 'symbolonlaw04.DescrBack', WHERE WHAT IT READS IS OF BULK AT MOST 1048576: true; the input reads as it did. -/
def descrBackUptoRow : OpenClaim := { program := "ytmlflmlgjjjmfaadoor", sum := "ec158899eca29e192e0ccd0f37fc546c561a0458a4db88a0166f2228617e48b4", func := "symbolon/symbolonlaw04.DescrBack", spec := "descrBack", inPlace := ["internal/abi.NoEscape"], unfollowed := true, recurses := true, named := ["internal/strconv.uint64pow10", "math/bits.deBruijn32tab", "math/bits.deBruijn64tab", "symbolon/descr.kinds"], apart := false, laid := [("math/bits.deBruijn32tab", laid_math_bits_deBruijn32tab), ("math/bits.deBruijn64tab", laid_math_bits_deBruijn64tab), ("internal/strconv.uint64pow10", laid_internal_strconv_uint64pow10), ("symbolon/descr.kinds", laid_symbolon_descr_kinds)], narrowed := true }
def DescrBackUptoSaid : Prop := descrBackUptoRow.holds Tryd.pinned (OpenSpec.upto descrBackSpec)

/-- 'symbolonlaw04.DescrPrints', WHERE WHAT IT READS IS OF BULK AT MOST 1048576: true; the input reads as it did. -/
def descrPrintsUptoRow : OpenClaim := { program := "ytmlflmlgjjjmfaadoor", sum := "ec158899eca29e192e0ccd0f37fc546c561a0458a4db88a0166f2228617e48b4", func := "symbolon/symbolonlaw04.DescrPrints", spec := "descrPrints", inPlace := ["internal/abi.NoEscape"], unfollowed := true, recurses := true, named := ["internal/strconv.uint64pow10", "math/bits.deBruijn32tab", "math/bits.deBruijn64tab", "symbolon/descr.kinds"], apart := false, laid := [("math/bits.deBruijn32tab", laid_math_bits_deBruijn32tab), ("math/bits.deBruijn64tab", laid_math_bits_deBruijn64tab), ("internal/strconv.uint64pow10", laid_internal_strconv_uint64pow10), ("symbolon/descr.kinds", laid_symbolon_descr_kinds)], narrowed := true }
def DescrPrintsUptoSaid : Prop := descrPrintsUptoRow.holds Tryd.pinned (OpenSpec.upto descrPrintsSpec)

/-- 'symbolonlaw04.DescrCut', WHERE WHAT IT READS IS OF BULK AT MOST 1048576: true; the input reads as it did. -/
def descrCutUptoRow : OpenClaim := { program := "ytmlflmlgjjjmfaadoor", sum := "ec158899eca29e192e0ccd0f37fc546c561a0458a4db88a0166f2228617e48b4", func := "symbolon/symbolonlaw04.DescrCut", spec := "descrCut", inPlace := ["internal/abi.NoEscape"], unfollowed := true, recurses := true, named := ["internal/strconv.uint64pow10", "math/bits.deBruijn32tab", "math/bits.deBruijn64tab", "symbolon/descr.kinds"], apart := false, laid := [("math/bits.deBruijn32tab", laid_math_bits_deBruijn32tab), ("math/bits.deBruijn64tab", laid_math_bits_deBruijn64tab), ("internal/strconv.uint64pow10", laid_internal_strconv_uint64pow10), ("symbolon/descr.kinds", laid_symbolon_descr_kinds)], narrowed := true }
def DescrCutUptoSaid : Prop := descrCutUptoRow.holds Tryd.pinned (OpenSpec.upto descrCutSpec)

/-- 'symbolonlaw04.DescrFull', WHERE WHAT IT READS IS OF BULK AT MOST 1048576: true; the input reads as it did. -/
def descrFullUptoRow : OpenClaim := { program := "ytmlflmlgjjjmfaadoor", sum := "ec158899eca29e192e0ccd0f37fc546c561a0458a4db88a0166f2228617e48b4", func := "symbolon/symbolonlaw04.DescrFull", spec := "descrFull", inPlace := ["internal/abi.NoEscape"], unfollowed := true, recurses := true, named := ["internal/strconv.uint64pow10", "math/bits.deBruijn32tab", "math/bits.deBruijn64tab", "symbolon/descr.kinds"], apart := false, laid := [("math/bits.deBruijn32tab", laid_math_bits_deBruijn32tab), ("math/bits.deBruijn64tab", laid_math_bits_deBruijn64tab), ("internal/strconv.uint64pow10", laid_internal_strconv_uint64pow10), ("symbolon/descr.kinds", laid_symbolon_descr_kinds)], narrowed := true }
def DescrFullUptoSaid : Prop := descrFullUptoRow.holds Tryd.pinned (OpenSpec.upto descrFullSpec)

/-- 'symbolonlaw04.DescrWrong', WHERE WHAT IT READS IS OF BULK AT MOST 1048576: true; the input reads as it did. -/
def descrWrongUptoRow : OpenClaim := { program := "ytmlflmlgjjjmfaadoor", sum := "ec158899eca29e192e0ccd0f37fc546c561a0458a4db88a0166f2228617e48b4", func := "symbolon/symbolonlaw04.DescrWrong", spec := "descrWrong", inPlace := ["internal/abi.NoEscape"], unfollowed := true, recurses := true, named := ["internal/strconv.uint64pow10", "math/bits.deBruijn32tab", "math/bits.deBruijn64tab", "symbolon/descr.kinds"], apart := false, laid := [("math/bits.deBruijn32tab", laid_math_bits_deBruijn32tab), ("math/bits.deBruijn64tab", laid_math_bits_deBruijn64tab), ("internal/strconv.uint64pow10", laid_internal_strconv_uint64pow10), ("symbolon/descr.kinds", laid_symbolon_descr_kinds)], narrowed := true }
def DescrWrongUptoSaid : Prop := descrWrongUptoRow.holds Tryd.pinned (OpenSpec.upto descrWrongSpec)

end Rows
end Go.Proofs.YtmlflmlgjjjmfaaDoor
