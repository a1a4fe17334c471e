/-
  How what comes in is read as numbers, for all laws of layer 9.
-/
import Derived.Test.YtjokaaekliapmaaDoorBase
import Derived.ProofKit
import Derived.OpenShut
import Derived.ChangeOld
namespace Go.Proofs.YtjokaaekliapmaaDoor
open Go.ChangeShapes Go.WideShapes Go.ChangeAt Go.RowKit

theorem Tryd.sown : ownKnob Tryd.prog.godebug = none := by kernel_rfl
theorem su64_of_wf {n : Int} (h : (Lit.int .u64 n).wf = true) : ∃ u : UInt64, n = uz u := by
  have h2 := bounds_u64 h
  exact uz_of h2.1 (by omega)

end Go.Proofs.YtjokaaekliapmaaDoor
