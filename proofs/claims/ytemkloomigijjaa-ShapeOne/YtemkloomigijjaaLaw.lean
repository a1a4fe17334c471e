/-
  How what comes in is read as shapes and numbers, for all laws of layer 2.
-/
import Derived.Test.YtemkloomigijjaaHead
import Derived.ProofKit
import Derived.OpenShut
import Derived.ChangeOld
import Derived.Lib.SmallJoins
namespace Go.Proofs.Ytemkloomigijjaa
open Go.ChangeShapes Go.WideShapes Go.ChangeAt Go.RowKit

theorem Try.own : ownKnob Try.prog.godebug = none := by kernel_rfl
theorem Try.laidOut : laidOutB Try.prog = true := by kernel_rfl
theorem Try.cells23 : Try.prog.cellsOf 23 = 3 := by kernel_rfl

variable {H : Type} {enc : TypeId × Value → H} {W : World} {base : Nat} {spare : Nat → Bool} {held : Bool}

theorem shape_open {r : Reach} {b0 : Nat} {v : Value} {d : DataW H} {p : List MemPlace} (hv : Value.okWide Try.prog W r b0 23 v) (h : DataW.Trod enc Try.prog W base spare held 23 v d p) :
    ∃ c y x : Int, v = .agg #[.int .i64 c, .int .i64 y, .int .i64 x] ∧ d = .agg [.lit (.int .i64 c), .lit (.int .i64 y), .lit (.int .i64 x)] ∧ p = [] ∧
      (Lit.int .i64 c).wf = true ∧ (Lit.int .i64 y).wf = true ∧ (Lit.int .i64 x).wf = true := by
  obtain ⟨v0, v1, v2, y0, y1, y2, n, rfl, rfl, rfl, t0, t1, t2⟩ := Joins.open_agg3 Try.underlying23 (by kernel_rfl) Try.cells23 hv h
  obtain ⟨c, e0, rfl, w0⟩ := DataW.trod_int Try.underlying3 t0
  obtain ⟨y, e1, rfl, w1⟩ := DataW.trod_int Try.underlying3 t1
  obtain ⟨x, e2, rfl, w2⟩ := DataW.trod_int Try.underlying3 t2
  simp only [List.cons.injEq, and_true] at e0 e1 e2
  subst e0 e1 e2
  exact ⟨c, y, x, rfl, rfl, rfl, w0, w1, w2⟩

theorem shape_shut {c y x : Int} (w0 : (Lit.int .i64 c).wf = true) (w1 : (Lit.int .i64 y).wf = true) (w2 : (Lit.int .i64 x).wf = true) :
    DataW.Trod enc Try.prog W base spare held 23 (.agg #[.int .i64 c, .int .i64 y, .int .i64 x]) (.agg [.lit (.int .i64 c), .lit (.int .i64 y), .lit (.int .i64 x)]) [] :=
  Joins.shut_agg3 (y0 := (.lit (.int .i64 c), [])) (y1 := (.lit (.int .i64 y), [])) (y2 := (.lit (.int .i64 x), [])) Try.underlying23 (by kernel_rfl) Try.cells23
    ⟨1, trod_int_mk 0 Try.underlying3 w0⟩ ⟨1, trod_int_mk 0 Try.underlying3 w1⟩ ⟨1, trod_int_mk 0 Try.underlying3 w2⟩

end Go.Proofs.Ytemkloomigijjaa
