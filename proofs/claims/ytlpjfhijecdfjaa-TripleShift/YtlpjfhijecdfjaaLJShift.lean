/-
  TripleShift: a seed that is five steps of the stream further tells the next triple.
-/
import Derived.Test.YtlpjfhijecdfjaaJHead
namespace Go.Proofs.Ytlpjfhijecdfjaa
open Go.RowKit

set_option maxHeartbeats 4000000 in
set_option maxRecDepth 100000 in
theorem law_jshift (s : UInt64) (a : Int) (i k : UInt64) (w : World) :
    Calls Try.prog 7 #[.int .u64 (uz s), .int .i64 a, .int .u64 (uz i), .int .u64 (uz k)] w fun e w' => e = .returned (.bool true) ∧ Below w.heap.size w w' := by
  obtain ⟨t, ht⟩ : ∃ t, t = halfU s a (i + k) := ⟨_, rfl⟩
  obtain ⟨z, hz⟩ : ∃ z, z = s + 5 * k * gU := ⟨_, rfl⟩
  obtain ⟨j, hj⟩ : ∃ j, j = i + k := ⟨_, rfl⟩
  have e1 : IntKind.u64.wrap (5 * uz k) = uz (5 * k) := uz_mul 5 k
  have e2 : IntKind.u64.wrap (uz (5 * k) * 11400714819323198485) = uz (5 * k * gU) := by rw [← g_lit]; exact uz_mul _ _
  have e3 : IntKind.u64.wrap (uz s + uz (5 * k * gU)) = uz z := by rw [hz]; exact uz_add _ _
  have e4 : IntKind.u64.wrap (uz i + uz k) = uz j := by rw [hj]; exact uz_add _ _
  have C0 : Hid (∀ w, Calls Try.prog 11 #[.int .u64 (uz z), .int .i64 a, .int .u64 (uz i)] w fun e w' => e = .returned (tpv t) ∧ Below w.heap.size w w') := fun w => by rw [ht, ← half_shift, hz]; exact half11 _ a i w
  have C1 : Hid (∀ w, Calls Try.prog 11 #[.int .u64 (uz s), .int .i64 a, .int .u64 (uz j)] w fun e w' => e = .returned (tpv t) ∧ Below w.heap.size w w') := fun w => by rw [ht, hj]; exact half11 s a _ w
  have heq := tp_eq t
  clear ht hz hj
  go_enter Try.func7, Try.ntmps7
  go_wp2_with fail
  refine (head11_any _).mono ?_
  rintro e w1 ⟨rfl, hb⟩
  have B1 := Lib.hid hb
  clear hb
  go_wp2_with fail
  refine (C0.out _).mono ?_
  rintro e w2 ⟨rfl, hb⟩
  have B2 := Lib.hid (chain B1.out hb)
  clear hb B1
  unfold tpv
  go_wp2_with fail
  refine (C1.out _).mono ?_
  rintro e w3 ⟨rfl, hb⟩
  have B3 := Lib.hid (chain B2.out hb)
  clear hb B2
  unfold tpv
  go_wp2_with fail
  go_ret
  exact ⟨rfl, B3.out⟩

end Go.Proofs.Ytlpjfhijecdfjaa
