/-
  The fixed questions of layer 9.
-/
import Derived.Test.YtnbnfkgoneinfaaSPub
namespace Go.Proofs.Ytnbnfkgoneinfaa
open Go.RowKit

theorem h9a : uz (numU 0 0) = 16294208416658607535 := by kernel_rfl
theorem h9b : uz (numU 0 1) = 7960286522194355700 := by kernel_rfl
theorem h9c : whichU 0 7960286522194355700 = 1 := which_num 0 1
theorem h9r : rowN 0 0 2 = [16294208416658607535, 7960286522194355700] := by kernel_rfl
theorem h9n : rowN 0 0 5000 = [] := if_neg (by decide)
theorem h9m : rowN 0 0 (-1) = [] := by
  unfold rowN
  rw [if_pos (by decide)]; rfl

set_option maxHeartbeats 2000000 in
theorem head9_any (w : World) : Calls Try.prog 26 #[] w fun e w' => e = .returned (.bool true) ∧ Below w.heap.size w w' := by
  have Q1 : Hid (∀ w, Calls Try.prog 27 #[.int .u64 0, .int .u64 0] w fun e w' => e = .returned (.int .u64 16294208416658607535) ∧ Below w.heap.size w w') := fun w => by have := number9 0 0 w; rw [h9a] at this; exact this
  have Q2 : Hid (∀ w, Calls Try.prog 27 #[.int .u64 0, .int .u64 1] w fun e w' => e = .returned (.int .u64 7960286522194355700) ∧ Below w.heap.size w w') := fun w => by have := number9 0 1 w; rw [h9b] at this; exact this
  have Q3 : Hid (∀ w, Calls Try.prog 29 #[.int .u64 0, .int .u64 7960286522194355700] w fun e w' => e = .returned (.int .u64 1) ∧ Below w.heap.size w w') := fun w => by have := which9 0 7960286522194355700 w; rw [h9c] at this; exact this
  have Q4 : Hid (∀ w, Calls Try.prog 31 #[.int .u64 0, .int .u64 0, .int .i64 2] w (RowTo ucells [16294208416658607535, 7960286522194355700] w)) := fun w => by have := row9 0 0 2 w; rw [h9r] at this; exact this
  have Q5 : Hid (∀ w, Calls Try.prog 31 #[.int .u64 0, .int .u64 0, .int .i64 5000] w (RowTo ucells [] w)) := fun w => by have := row9 0 0 5000 w; rw [h9n] at this; exact this
  have Q6 : Hid (∀ w, Calls Try.prog 31 #[.int .u64 0, .int .u64 0, .int .i64 (-1)] w (RowTo ucells [] w)) := fun w => by have := row9 0 0 (-1) w; rw [h9m] at this; exact this
  go_enter Try.func26, Try.ntmps26
  go_wp2_with fail
  refine (Q1.out _).mono ?_
  rintro e w1 ⟨rfl, hb⟩
  have B1 := Lib.hid hb
  clear hb
  go_wp2_with fail
  refine (Q2.out _).mono ?_
  rintro e w2 ⟨rfl, hb⟩
  have B2 := Lib.hid (chain B1.out hb)
  clear hb
  go_wp2_with fail
  refine (Q3.out _).mono ?_
  rintro e w3 ⟨rfl, hb⟩
  have B3 := Lib.hid (chain B2.out hb)
  clear hb
  go_wp2_with fail
  refine (Q4.out _).mono ?_
  rintro e w4 ⟨A4, k4, n4, rfl, hn4, hR4, hb, hd1, hd2⟩
  obtain rfl : n4 = 2 := hn4
  have B4 := Lib.hid (chain B3.out hb)
  have R4 := Lib.hid hR4
  clear hb hR4 hd1 hd2
  go_wp2_with fail
  refine (ssame A4 _ k4 _ 2 2 [16294208416658607535, 7960286522194355700] [16294208416658607535, 7960286522194355700] _ (R4.out.alloc _) (rg_block (heap_alloc_new w4 _) rfl) rfl rfl (by decide) rfl).mono ?_
  rintro e w5 ⟨rfl, hb⟩
  have B5 := Lib.hid (chain (chain_alloc B4.out _) hb)
  clear hb
  go_wp2_with fail
  refine (Q5.out _).mono ?_
  rintro e w6 ⟨A6, k6, n6, rfl, hn6, hR6, hb, hd1, hd2⟩
  obtain rfl : n6 = 0 := hn6
  have B6 := Lib.hid (chain B5.out hb)
  clear hb hR6 hd1 hd2
  go_wp2_with fail
  refine (Q6.out _).mono ?_
  rintro e w7 ⟨A7, k7, n7, rfl, hn7, hR7, hb, hd1, hd2⟩
  obtain rfl : n7 = 0 := hn7
  have B7 := Lib.hid (chain B6.out hb)
  clear hb hR7 hd1 hd2
  go_wp2_with fail
  go_ret
  exact ⟨rfl, B7.out⟩

end Go.Proofs.Ytnbnfkgoneinfaa
