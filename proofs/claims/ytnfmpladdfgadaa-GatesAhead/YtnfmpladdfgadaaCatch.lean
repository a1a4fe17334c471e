/-
  The deferred closure of look: what it makes of a panic, and of none.
-/
import Derived.Test.YtnfmpladdfgadaaKnown
namespace Go.Proofs.Ytnfmpladdfgadaa
open Go.RowKit

theorem catch_idle (p q : Addr) (w : World) :
    CallsD Try.prog 81 #[.pointer (some p), .pointer (some q)] .returning w fun e u' w' => e = .returned (.tuple #[]) ∧ u' = .returning ∧ w' = w := by
  refine callsD_of_wpS Try.func81 rfl fun c₀ cs hu => ?_
  apply wpS_seq
  apply wpS_region
  simp [wpOpsS, go_sem, recoverD, hu, Try.ntmps81, Exit.thenS]
  refine wpS_of_wp ?_
  go_wp2
  cases c₀
  simp_all [bodyPostS, results, Try.results81]

theorem catch_panicking (p q : Addr) (v0 v1 : Value) (n : Int) (w : World) (hp : w.cell? p = some v0) (fp : w.frozen? p = false) (hq : w.cell? q = some v1) (fq : w.frozen? q = false) (hpq : q.block ≠ p.block) :
    CallsD Try.prog 81 #[.pointer (some p), .pointer (some q)] (.panicking [{ v := .iface 30 (.int .i64 n), recovered := false }]) w fun e u' w' =>
      e = .returned (.tuple #[]) ∧ u' = .panicking [{ v := .iface 30 (.int .i64 n), recovered := true }] ∧ w' = ((w.setCell p (.slice none 0 0)).setCell q (.int .i64 n)).drew := by
  refine callsD_of_wpS Try.func81 rfl fun c₀ cs hu => ?_
  apply wpS_seq
  apply wpS_region
  simp [wpOpsS, go_sem, recoverD, hu, Try.ntmps81, Exit.thenS]
  refine wpS_of_wp ?_
  have hq2 : (w.setCell p (.slice none 0 0)).cell? q = some v1 := (World.cell?_setCell_other w p q _ (fun e => hpq (by rw [e]))).trans hq
  have hta : ∀ w, (Instr.typeAssert (.iface 30 (.int .i64 n)) 20 30 false).run Try.prog w = .ok (.int .i64 n) w := fun _ => by kernel_rfl
  go_wp2
  change Code.wp _ _ _ { tmps := #[.pointer (some p), .pointer (some q), .iface 30 (.int .i64 n), .iface 30 (.int .i64 n), .iface 30 (.int .i64 n), .bool true, undef, undef], defers := [] } w
  go_region
  exact ⟨rfl, _, rfl, .tuple #[], by simp [results, Try.results81], rfl, rfl, rfl⟩

end Go.Proofs.Ytnfmpladdfgadaa
