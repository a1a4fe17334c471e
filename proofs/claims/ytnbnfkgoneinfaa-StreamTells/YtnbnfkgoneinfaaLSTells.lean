/-
  StreamTells: any number of any seed, which one any number is, and any row, are the document's.
-/
import Derived.Test.YtnbnfkgoneinfaaSHead
namespace Go.Proofs.Ytnbnfkgoneinfaa
open Go.RowKit

set_option maxHeartbeats 2000000 in
set_option maxRecDepth 100000 in
theorem law_stells (s i n : UInt64) (m : Int) (w : World) :
    Calls Try.prog 4 #[.int .u64 (uz s), .int .u64 (uz i), .int .u64 (uz n), .int .i64 m] w fun e w' => e = .returned (.bool true) ∧ Below w.heap.size w w' := by
  obtain ⟨a, ha⟩ : ∃ a, a = numU s i := ⟨_, rfl⟩
  obtain ⟨b, hb0⟩ : ∃ b, b = whichU s n := ⟨_, rfl⟩
  obtain ⟨us, hus⟩ : ∃ us, us = rowN s i m := ⟨_, rfl⟩
  have C1 : Hid (∀ w, Calls Try.prog 27 #[.int .u64 (uz s), .int .u64 (uz i)] w fun e w' => e = .returned (.int .u64 (uz a)) ∧ Below w.heap.size w w') := fun w => by rw [ha]; exact number9 s i w
  have C2 : Hid (∀ w, Calls Try.prog 28 #[.int .u64 (uz s), .int .u64 (uz i)] w fun e w' => e = .returned (.int .u64 (uz a)) ∧ Below w.heap.size w w') := fun w => by rw [ha]; exact rnumber9 s i w
  have C3 : Hid (∀ w, Calls Try.prog 29 #[.int .u64 (uz s), .int .u64 (uz n)] w fun e w' => e = .returned (.int .u64 (uz b)) ∧ Below w.heap.size w w') := fun w => by rw [hb0]; exact which9 s n w
  have C4 : Hid (∀ w, Calls Try.prog 30 #[.int .u64 (uz s), .int .u64 (uz n)] w fun e w' => e = .returned (.int .u64 (uz b)) ∧ Below w.heap.size w w') := fun w => by rw [hb0]; exact rwhich9 s n w
  have C5 : Hid (∀ w, Calls Try.prog 31 #[.int .u64 (uz s), .int .u64 (uz i), .int .i64 m] w (RowTo ucells us w)) := fun w => by rw [hus]; exact row9 s i m w
  have C6 : Hid (∀ w, Calls Try.prog 32 #[.int .u64 (uz s), .int .u64 (uz i), .int .i64 m] w (RowTo ucells us w)) := fun w => by rw [hus]; exact rrow9 s i m w
  have LU : Hid (us.length ≤ 4096) := by
    show _ ≤ _
    rw [hus]; unfold rowN
    split
    · rw [srow_len]; omega
    · simp
  clear ha hb0 hus
  go_enter Try.func4, Try.ntmps4
  go_wp2_with fail
  refine (head9_any _).mono ?_
  rintro e w1 ⟨rfl, hb⟩
  have B1 := Lib.hid hb
  clear hb
  go_wp2_with fail
  refine (C1.out _).mono ?_
  rintro e w2 ⟨rfl, hb⟩
  have B2 := Lib.hid (chain B1.out hb)
  clear hb
  go_wp2_with fail
  refine (C2.out _).mono ?_
  rintro e w3 ⟨rfl, hb⟩
  have B3 := Lib.hid (chain B2.out hb)
  clear hb
  go_wp2_with fail
  refine (C3.out _).mono ?_
  rintro e w4 ⟨rfl, hb⟩
  have B4 := Lib.hid (chain B3.out hb)
  clear hb
  go_wp2_with fail
  refine (C4.out _).mono ?_
  rintro e w5 ⟨rfl, hb⟩
  have B5 := Lib.hid (chain B4.out hb)
  clear hb
  go_wp2_with fail
  refine (C5.out _).mono ?_
  rintro e w6 ⟨A1, k1, n1, rfl, hn, hR, hb, hd1, hd2⟩
  have B6 := Lib.hid (chain B5.out hb)
  have R1 := Lib.hid hR; have M1 := Lib.hid hn
  clear hb hR hn hd1 hd2
  go_wp2_with fail
  refine (C6.out _).mono ?_
  rintro e w7 ⟨A2, k2, n2, rfl, hn, hR, hb, hd1, hd2⟩
  have B7 := Lib.hid (chain B6.out hb)
  have R2 := Lib.hid hR; have M2 := Lib.hid hn
  have R1 := Lib.hid (R1.out.below hb)
  clear hb hR hn hd1 hd2
  obtain rfl : n2 = n1 := M2.out.trans M1.out.symm
  have n5 : n2 ≤ 4096 := by rw [M1.out]; exact LU.out
  go_wp2_with fail
  refine (ssame A1 A2 k1 k2 n2 n2 us us _ R1.out R2.out M1.out M1.out (by omega) rfl).mono ?_
  rintro e w8 ⟨rfl, hb⟩
  have B8 := Lib.hid (chain B7.out hb)
  clear hb
  go_wp2_with fail
  go_ret
  exact ⟨rfl, B8.out⟩

end Go.Proofs.Ytnbnfkgoneinfaa
