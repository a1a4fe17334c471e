/-
  StreamBack: each number is one of each seed's, and only one.
-/
import Derived.Test.YtnbnfkgoneinfaaSHead
namespace Go.Proofs.Ytnbnfkgoneinfaa
open Go.RowKit

set_option maxHeartbeats 2000000 in
set_option maxRecDepth 100000 in
theorem law_sback (s i n : UInt64) (w : World) :
    Calls Try.prog 5 #[.int .u64 (uz s), .int .u64 (uz i), .int .u64 (uz n)] w fun e w' => e = .returned (.bool true) ∧ Below w.heap.size w w' := by
  obtain ⟨m, hm⟩ : ∃ m, m = numU s i := ⟨_, rfl⟩
  obtain ⟨j, hj⟩ : ∃ j, j = whichU s n := ⟨_, rfl⟩
  have C1 : Hid (∀ w, Calls Try.prog 27 #[.int .u64 (uz s), .int .u64 (uz i)] w fun e w' => e = .returned (.int .u64 (uz m)) ∧ Below w.heap.size w w') := fun w => by rw [hm]; exact number9 s i w
  have C2 : Hid (∀ w, Calls Try.prog 29 #[.int .u64 (uz s), .int .u64 (uz m)] w fun e w' => e = .returned (.int .u64 (uz i)) ∧ Below w.heap.size w w') := fun w => by
    have := which9 s m w
    rw [hm, which_num] at this
    rw [hm]; exact this
  have C3 : Hid (∀ w, Calls Try.prog 29 #[.int .u64 (uz s), .int .u64 (uz n)] w fun e w' => e = .returned (.int .u64 (uz j)) ∧ Below w.heap.size w w') := fun w => by rw [hj]; exact which9 s n w
  have C4 : Hid (∀ w, Calls Try.prog 27 #[.int .u64 (uz s), .int .u64 (uz j)] w fun e w' => e = .returned (.int .u64 (uz n)) ∧ Below w.heap.size w w') := fun w => by
    have := number9 s j w
    rw [hj, num_which] at this
    rw [hj]; exact this
  clear hm hj
  go_enter Try.func5, Try.ntmps5
  go_wp2_with fail
  refine (head9_any _).mono ?_
  rintro e w1 ⟨rfl, hb⟩
  have B1 := Lib.hid hb
  clear hb
  go_wp2_with fail
  refine (C1.out _).mono ?_
  rintro e w2 ⟨rfl, hb⟩
  have B2 := Lib.hid (chain B1.out hb)
  clear hb
  go_wp2_with fail
  refine (C2.out _).mono ?_
  rintro e w3 ⟨rfl, hb⟩
  have B3 := Lib.hid (chain B2.out hb)
  clear hb
  go_wp2_with fail
  refine (C3.out _).mono ?_
  rintro e w4 ⟨rfl, hb⟩
  have B4 := Lib.hid (chain B3.out hb)
  clear hb
  go_wp2_with fail
  refine (C4.out _).mono ?_
  rintro e w5 ⟨rfl, hb⟩
  have B5 := Lib.hid (chain B4.out hb)
  clear hb
  go_wp2_with fail
  go_ret
  exact ⟨rfl, B5.out⟩

end Go.Proofs.Ytnbnfkgoneinfaa
