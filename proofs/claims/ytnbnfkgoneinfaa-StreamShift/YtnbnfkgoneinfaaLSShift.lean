/-
  StreamShift: a seed that is so many steps further tells what the first one tells so many places further.
-/
import Derived.Test.YtnbnfkgoneinfaaSHead
namespace Go.Proofs.Ytnbnfkgoneinfaa
open Go.RowKit

set_option maxHeartbeats 2000000 in
set_option maxRecDepth 100000 in
theorem law_sshift (s i k : UInt64) (m : Int) (w : World) (bm : 0 ≤ m ∧ m ≤ 255) :
    Calls Try.prog 8 #[.int .u64 (uz s), .int .u64 (uz i), .int .u64 (uz k), .int .u8 m] w fun e w' => e = .returned (.bool true) ∧ Below w.heap.size w w' := by
  obtain ⟨bm0, bm1⟩ := bm
  obtain ⟨t, ht⟩ : ∃ t, t = s + k * gU := ⟨_, rfl⟩
  obtain ⟨j, hj⟩ : ∃ j, j = i + k := ⟨_, rfl⟩
  obtain ⟨a, ha⟩ : ∃ a, a = numU t i := ⟨_, rfl⟩
  obtain ⟨us, hus⟩ : ∃ us, us = rowN t i m := ⟨_, rfl⟩
  have v1 : IntKind.u64.wrap (uz k * 11400714819323198485) = uz (k * gU) := by rw [← g_lit]; exact uz_mul _ _
  have v2 : IntKind.u64.wrap (uz s + uz (k * gU)) = uz t := by rw [ht]; exact uz_add _ _
  have v3 : IntKind.u64.wrap (uz i + uz k) = uz j := by rw [hj]; exact uz_add _ _
  have C1 : Hid (∀ w, Calls Try.prog 27 #[.int .u64 (uz t), .int .u64 (uz i)] w fun e w' => e = .returned (.int .u64 (uz a)) ∧ Below w.heap.size w w') := fun w => by rw [ha]; exact number9 t i w
  have C2 : Hid (∀ w, Calls Try.prog 27 #[.int .u64 (uz s), .int .u64 (uz j)] w fun e w' => e = .returned (.int .u64 (uz a)) ∧ Below w.heap.size w w') := fun w => by
    have := number9 s j w
    rw [hj, ← num_shift, ← ht, ← ha] at this
    rw [hj]; exact this
  have C3 : Hid (∀ w, Calls Try.prog 31 #[.int .u64 (uz t), .int .u64 (uz i), .int .i64 m] w (RowTo ucells us w)) := fun w => by rw [hus]; exact row9 t i m w
  have C4 : Hid (∀ w, Calls Try.prog 31 #[.int .u64 (uz s), .int .u64 (uz j), .int .i64 m] w (RowTo ucells us w)) := fun w => by
    have := row9 s j m w
    rw [show rowN s j m = us by rw [hus, ht, hj]; unfold rowN; rw [srow_shift]] at this
    exact this
  have LU : Hid (us.length ≤ 255) := by
    show _ ≤ _
    rw [hus]; unfold rowN
    rw [if_pos (by omega), srow_len]; omega
  clear ht hj ha hus
  go_enter Try.func8, Try.ntmps8
  go_wp2_with fail
  refine (head9_any _).mono ?_
  rintro e w1 ⟨rfl, hb⟩
  have B1 := Lib.hid hb
  clear hb
  go_wp2_with fail
  refine (C1.out _).mono ?_
  rintro e w2 ⟨rfl, hb⟩
  have B2 := Lib.hid (chain B1.out hb)
  clear hb
  go_wp2_with fail
  refine (C2.out _).mono ?_
  rintro e w3 ⟨rfl, hb⟩
  have B3 := Lib.hid (chain B2.out hb)
  clear hb
  go_wp2_with fail
  refine (C3.out _).mono ?_
  rintro e w4 ⟨A1, k1, n1, rfl, hn, hR, hb, hd1, hd2⟩
  have B4 := Lib.hid (chain B3.out hb)
  have R1 := Lib.hid hR; have M1 := Lib.hid hn
  clear hb hR hn hd1 hd2
  go_wp2_with fail
  refine (C4.out _).mono ?_
  rintro e w5 ⟨A2, k2, n2, rfl, hn, hR, hb, hd1, hd2⟩
  have B5 := Lib.hid (chain B4.out hb)
  have R2 := Lib.hid hR; have M2 := Lib.hid hn
  have R1 := Lib.hid (R1.out.below hb)
  clear hb hR hn hd1 hd2
  obtain rfl : n2 = n1 := M2.out.trans M1.out.symm
  have n5 : n2 ≤ 255 := by rw [M1.out]; exact LU.out
  go_wp2_with fail
  refine (ssame A1 A2 k1 k2 n2 n2 us us _ R1.out R2.out M1.out M1.out (by omega) rfl).mono ?_
  rintro e w6 ⟨rfl, hb⟩
  have B6 := Lib.hid (chain B5.out hb)
  clear hb
  go_wp2_with fail
  go_ret
  exact ⟨rfl, B6.out⟩

end Go.Proofs.Ytnbnfkgoneinfaa
