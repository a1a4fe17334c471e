/-
  The answers of package shape, each under a name of its own.
-/
import Derived.Test.YtemkloomigijjaaHead
import Derived.Deep.RegionHeld3
namespace Go.Proofs.Ytemkloomigijjaa
open Go.RowKit

theorem right_is (c h x : Int) (r : Bool) (e : rightB c h x = r) (w : World) :
    Calls Try.prog 17 #[.agg #[.int .i64 c, .int .i64 h, .int .i64 x]] w fun e w' => e = .returned (.bool r) ∧ Below w.heap.size w w' := by
  have := right_any c h x w
  rwa [e] at this
theorem size_is (c h x n : Int) (e : sizeI c h x = n) (w : World) :
    Calls Try.prog 19 #[.agg #[.int .i64 c, .int .i64 h, .int .i64 x]] w fun e w' => e = .returned (.int .i64 n) ∧ Below w.heap.size w w' := by
  have := size_any c h x w
  rwa [e] at this
theorem at_is (c h x k y z p : Int) (e : atI c h x k y z = p) (w : World) :
    Calls Try.prog 21 #[.agg #[.int .i64 c, .int .i64 h, .int .i64 x], .int .i64 k, .int .i64 y, .int .i64 z] w fun e w' => e = .returned (.int .i64 p) ∧ Below w.heap.size w w' := by
  have := at_any c h x k y z w
  rwa [e] at this
theorem of_is (c h x i a b d : Int) (t : Bool) (e : chI c h x i = a ∧ rowI c h x i = b ∧ colI c h x i = d ∧ hasB c h x i = t) (w : World) :
    Calls Try.prog 11 #[.agg #[.int .i64 c, .int .i64 h, .int .i64 x], .int .i64 i] w fun e w' => e = .returned (.tuple #[.int .i64 a, .int .i64 b, .int .i64 d, .bool t]) ∧ Below w.heap.size w w' := by
  have := of_any c h x i w
  rwa [e.1, e.2.1, e.2.2.1, e.2.2.2] at this
theorem conv_to (c h x out size step a b d : Int) (t : Bool) (e : convC c h x out size step = a ∧ convH c h x out size step = b ∧ convW c h x out size step = d ∧ convB c h x out size step = t) (w : World) :
    Calls Try.prog 13 #[.agg #[.int .i64 c, .int .i64 h, .int .i64 x], .int .i64 out, .int .i64 size, .int .i64 step] w (Out a b d t w) := by
  have := conv_any c h x out size step w
  rwa [e.1, e.2.1, e.2.2.1, e.2.2.2] at this
theorem pool_to (c h x size a b d : Int) (t : Bool) (e : poolC c h x size = a ∧ poolH c h x size = b ∧ poolW c h x size = d ∧ poolB c h x size = t) (w : World) :
    Calls Try.prog 15 #[.agg #[.int .i64 c, .int .i64 h, .int .i64 x], .int .i64 size] w (Out a b d t w) := by
  have := pool_any c h x size w
  rwa [e.1, e.2.1, e.2.2.1, e.2.2.2] at this

theorem Box.drew {w : World} {b : Nat} {c h x : Int} (p : Box w b c h x) : Box w.drew b c h x := p

end Go.Proofs.Ytemkloomigijjaa
