/-
  What the document's own functions of layer 12 answer: Open, Sum, Close.
-/
import Derived.Test.YtggbhoanffdjbaaKMath
import Derived.Test.YtggbhoanffdjbaaJRef
namespace Go.Proofs.Ytggbhoanffdjbaa
open Go.RowKit

theorem Try.info44 : (Try.prog.info? 44).map (fun i => (i.zero, i.size, i.bytes)) = some (some (.agg #[.int .u64 0, .int .u64 0]), 2, 16) := by kernel_rfl
theorem on_ne (o : On) (w : World) : (binOp .neq 44 (.agg #[.int .u64 (uz o.d), .int .u64 (uz o.e)]) (.agg #[.int .u64 (uz o.d), .int .u64 (uz o.e)])).run Try.prog w = .ok (.bool false) w := by
  go_simp
theorem on_eq (o : On) (w : World) : (binOp .eql 44 (.agg #[.int .u64 (uz o.d), .int .u64 (uz o.e)]) (.agg #[.int .u64 (uz o.d), .int .u64 (uz o.e)])).run Try.prog w = .ok (.bool true) w := by
  go_simp

set_option maxHeartbeats 1000000 in
set_option maxRecDepth 100000 in
theorem ropen12 (x y : UInt64) (t : Tp) (w : World) : Calls Try.prog 44 #[.int .u64 (uz x), .int .u64 (uz y), tpv t] w fun e w' => e = .returned (onv (openU x y t)) ∧ Below w.heap.size w w' := by
  have e1 : IntKind.u64.wrap (uz x - uz t.a) = uz (x - t.a) := uz_sub _ _
  have e2 : IntKind.u64.wrap (uz y - uz t.b) = uz (y - t.b) := uz_sub _ _
  unfold tpv
  go_enter Try.func44, Try.ntmps44
  go_wp2_with fail
  exact bodyPost_ret (v := onv (openU x y t)) (by simp [results, Try.results44, go_sem, onv, openU]) rfl ⟨rfl, by first | exact chain_alloc (chain_alloc (Below.refl _ w) _) _ | exact below_set2 (chain_alloc (chain_alloc (Below.refl _ w) _) _) (by omega) _ _⟩

set_option maxHeartbeats 1000000 in
set_option maxRecDepth 100000 in
theorem rsum12 (a b : On) (w : World) : Calls Try.prog 46 #[onv a, onv b] w fun e w' => e = .returned (onv (sumO a b)) ∧ Below w.heap.size w w' := by
  have e1 : IntKind.u64.wrap (uz a.d + uz b.d) = uz (a.d + b.d) := uz_add _ _
  have e2 : IntKind.u64.wrap (uz a.e + uz b.e) = uz (a.e + b.e) := uz_add _ _
  unfold onv
  go_enter Try.func46, Try.ntmps46
  go_wp2_with fail
  exact bodyPost_ret (v := onv (sumO a b)) (by simp [results, Try.results46, go_sem, onv, sumO]) rfl ⟨rfl, by first | exact chain_alloc (chain_alloc (chain_alloc (Below.refl _ w) _) _) _ | exact below_set2 (chain_alloc (chain_alloc (chain_alloc (Below.refl _ w) _) _) _) (by omega) _ _⟩

set_option maxHeartbeats 1000000 in
set_option maxRecDepth 100000 in
theorem rclose12 (a : Int) (o : On) (t : Tp) (w : World) : Calls Try.prog 48 #[.int .i64 a, onv o, tpv t] w fun e w' => e = .returned (.int .u64 (uz (closeU a o t))) ∧ Below w.heap.size w w' := by
  have e1 : IntKind.u64.wrap (uz o.d * uz t.b) = uz (o.d * t.b) := uz_mul _ _
  have e2 : IntKind.u64.wrap (uz t.c + uz (o.d * t.b)) = uz (t.c + o.d * t.b) := uz_add _ _
  have e3 : IntKind.u64.wrap (uz o.e * uz t.a) = uz (o.e * t.a) := uz_mul _ _
  have e4 : IntKind.u64.wrap (uz (t.c + o.d * t.b) + uz (o.e * t.a)) = uz (t.c + o.d * t.b + o.e * t.a) := uz_add _ _
  have e5 : IntKind.u64.wrap (uz o.d * uz o.e) = uz (o.d * o.e) := uz_mul _ _
  have e6 : IntKind.u64.wrap (uz (t.c + o.d * t.b + o.e * t.a) + uz (o.d * o.e)) = uz (t.c + o.d * t.b + o.e * t.a + o.d * o.e) := uz_add _ _
  unfold tpv onv
  by_cases h0 : a = 0
  · have d : (a == 0) = true := by simp [h0]
    have E : Hid (closeU a o t = t.c + o.d * t.b + o.e * t.a + o.d * o.e) := if_pos h0
    clear h0
    go_enter Try.func48, Try.ntmps48
    go_wp2_with fail
    go_ret
    exact ⟨by rw [E.out]; rfl, chain_alloc (chain_alloc (Below.refl _ w) _) _⟩
  · have d : (a == 0) = false := by simp [h0]
    have E : Hid (closeU a o t = t.c + o.d * t.b + o.e * t.a) := if_neg h0
    clear h0
    go_enter Try.func48, Try.ntmps48
    go_wp2_with fail
    go_ret
    exact ⟨by rw [E.out]; rfl, chain_alloc (chain_alloc (Below.refl _ w) _) _⟩

end Go.Proofs.Ytggbhoanffdjbaa
