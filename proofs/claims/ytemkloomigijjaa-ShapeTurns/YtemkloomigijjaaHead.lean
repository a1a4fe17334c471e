/-
  The live questions that each law asks first: all are answered as they must be.
-/
import Derived.Test.YtemkloomigijjaaPool
import Derived.Laws.StructEq
namespace Go.Proofs.Ytemkloomigijjaa
open Go.RowKit

/-- A shape that lies in memory. -/
def Box (w : World) (b : Nat) (c h x : Int) : Prop :=
  b < w.heap.size ∧ w.cell? ⟨b, 0, none⟩ = some (.int .i64 c) ∧ w.cell? ⟨b, 1, none⟩ = some (.int .i64 h) ∧ w.cell? ⟨b, 2, none⟩ = some (.int .i64 x)
theorem Box.below {w w' : World} {b : Nat} {c h x : Int} (p : Box w b c h x) (hb : Below w.heap.size w w') : Box w' b c h x :=
  ⟨Nat.lt_of_lt_of_le p.1 hb.size, (hb.cell (p := ⟨b, 0, none⟩) p.1).trans p.2.1, (hb.cell (p := ⟨b, 1, none⟩) p.1).trans p.2.2.1, (hb.cell (p := ⟨b, 2, none⟩) p.1).trans p.2.2.2⟩
theorem Box.alloc {w : World} {b : Nat} {c h x : Int} (p : Box w b c h x) (o : Obj) : Box (w.alloc o) b c h x :=
  p.below ((Below.refl _ _).alloc (Nat.le_refl _) _)
theorem Box.new (w : World) (c h x : Int) : Box (w.alloc (.cells #[.int .i64 c, .int .i64 h, .int .i64 x] 23)) w.heap.size c h x :=
  ⟨by simp, by go_simp, by go_simp, by go_simp⟩

theorem shape_eq (a b c d e f : Int) (w : World) (r : Bool) (h : (a == d && (b == e && c == f)) = r) :
    (binOp .eql 23 (.agg #[.int .i64 a, .int .i64 b, .int .i64 c]) (.agg #[.int .i64 d, .int .i64 e, .int .i64 f])).run Try.prog w = .ok (.bool r) w := by
  rw [← h]
  cases h1 : a == d <;> cases h2 : b == e <;> cases h3 : c == f <;> go_simp <;> simp_all

theorem head_of (w : World) : Calls Try.prog 11 #[.agg #[.int .i64 2, .int .i64 3, .int .i64 4], .int .i64 23] w fun e w' => e = .returned (.tuple #[.int .i64 1, .int .i64 2, .int .i64 3, .bool true]) ∧ Below w.heap.size w w' := by
  have h := of_any 2 3 4 23 w
  skip
  rw [show chI 2 3 4 23 = 1 from by decide, show rowI 2 3 4 23 = 2 from by decide, show colI 2 3 4 23 = 3 from by decide, show hasB 2 3 4 23 = true from by decide] at h
  exact h

theorem head_off (w : World) : Calls Try.prog 11 #[.agg #[.int .i64 2, .int .i64 3, .int .i64 4], .int .i64 24] w fun e w' => e = .returned (.tuple #[.int .i64 0, .int .i64 0, .int .i64 0, .bool false]) ∧ Below w.heap.size w w' := by
  have h := of_any 2 3 4 24 w
  skip
  rw [show chI 2 3 4 24 = 0 from by decide, show rowI 2 3 4 24 = 0 from by decide, show colI 2 3 4 24 = 0 from by decide, show hasB 2 3 4 24 = false from by decide] at h
  exact h

theorem head_conv (w : World) : Calls Try.prog 13 #[.agg #[.int .i64 2, .int .i64 3, .int .i64 4], .int .i64 5, .int .i64 2, .int .i64 2] w fun e w' => e = .returned (.tuple #[.agg #[.int .i64 5, .int .i64 1, .int .i64 2], .bool true]) ∧ Below w.heap.size w w' := by
  have h := conv_any 2 3 4 5 2 2 w
  unfold Out at h
  rw [show convC 2 3 4 5 2 2 = 5 from by decide, show convH 2 3 4 5 2 2 = 1 from by decide, show convW 2 3 4 5 2 2 = 2 from by decide, show convB 2 3 4 5 2 2 = true from by decide] at h
  exact h

theorem head_none (w : World) : Calls Try.prog 13 #[.agg #[.int .i64 2, .int .i64 3, .int .i64 4], .int .i64 5, .int .i64 4, .int .i64 1] w fun e w' => e = .returned (.tuple #[.agg #[.int .i64 0, .int .i64 0, .int .i64 0], .bool false]) ∧ Below w.heap.size w w' := by
  have h := conv_any 2 3 4 5 4 1 w
  unfold Out at h
  rw [show convC 2 3 4 5 4 1 = 0 from by decide, show convH 2 3 4 5 4 1 = 0 from by decide, show convW 2 3 4 5 4 1 = 0 from by decide, show convB 2 3 4 5 4 1 = false from by decide] at h
  exact h

theorem head_pool (w : World) : Calls Try.prog 15 #[.agg #[.int .i64 2, .int .i64 4, .int .i64 6], .int .i64 2] w fun e w' => e = .returned (.tuple #[.agg #[.int .i64 2, .int .i64 2, .int .i64 3], .bool true]) ∧ Below w.heap.size w w' := by
  have h := pool_any 2 4 6 2 w
  unfold Out at h
  rw [show poolC 2 4 6 2 = 2 from by decide, show poolH 2 4 6 2 = 2 from by decide, show poolW 2 4 6 2 = 3 from by decide, show poolB 2 4 6 2 = true from by decide] at h
  exact h

theorem head_cut (w : World) : Calls Try.prog 15 #[.agg #[.int .i64 2, .int .i64 3, .int .i64 4], .int .i64 2] w fun e w' => e = .returned (.tuple #[.agg #[.int .i64 0, .int .i64 0, .int .i64 0], .bool false]) ∧ Below w.heap.size w w' := by
  have h := pool_any 2 3 4 2 w
  unfold Out at h
  rw [show poolC 2 3 4 2 = 0 from by decide, show poolH 2 3 4 2 = 0 from by decide, show poolW 2 3 4 2 = 0 from by decide, show poolB 2 3 4 2 = false from by decide] at h
  exact h

theorem head_right (w : World) : Calls Try.prog 17 #[.agg #[.int .i64 2, .int .i64 3, .int .i64 4]] w fun e w' => e = .returned (.bool true) ∧ Below w.heap.size w w' := by
  have h := right_any 2 3 4 w
  skip
  rw [show rightB 2 3 4 = true from by decide] at h
  exact h

theorem head_great (w : World) : Calls Try.prog 17 #[.agg #[.int .i64 8, .int .i64 12, .int .i64 12]] w fun e w' => e = .returned (.bool false) ∧ Below w.heap.size w w' := by
  have h := right_any 8 12 12 w
  skip
  rw [show rightB 8 12 12 = false from by decide] at h
  exact h

theorem head_size (w : World) : Calls Try.prog 19 #[.agg #[.int .i64 2, .int .i64 3, .int .i64 4]] w fun e w' => e = .returned (.int .i64 24) ∧ Below w.heap.size w w' := by
  have h := size_any 2 3 4 w
  skip
  rw [show sizeI 2 3 4 = 24 from by decide] at h
  exact h

theorem head_at (w : World) : Calls Try.prog 21 #[.agg #[.int .i64 2, .int .i64 3, .int .i64 4], .int .i64 1, .int .i64 2, .int .i64 3] w fun e w' => e = .returned (.int .i64 23) ∧ Below w.heap.size w w' := by
  have h := at_any 2 3 4 1 2 3 w
  skip
  rw [show atI 2 3 4 1 2 3 = 23 from by decide] at h
  exact h

theorem head_out (w : World) : Calls Try.prog 21 #[.agg #[.int .i64 2, .int .i64 3, .int .i64 4], .int .i64 0, .int .i64 3, .int .i64 0] w fun e w' => e = .returned (.int .i64 (-1)) ∧ Below w.heap.size w w' := by
  have h := at_any 2 3 4 0 3 0 w
  skip
  rw [show atI 2 3 4 0 3 0 = -1 from by decide] at h
  exact h

set_option maxHeartbeats 2000000 in
set_option maxRecDepth 100000 in
theorem head_any (w : World) : Calls Try.prog 10 #[] w fun e w' => e = .returned (.bool true) ∧ Below w.heap.size w w' := by
  have q1 := fun w => shape_eq 5 1 2 5 1 2 w true (by decide)
  have q2 := fun w => shape_eq 2 2 3 2 2 3 w true (by decide)
  go_enter Try.func10, Try.ntmps10
  go_wp2_with fail
  refine (head_of _).mono ?_
  rintro e w1 ⟨rfl, hb1⟩
  have HB1 : Hid (Below w.heap.size w w1) := chain (by repeat first | exact Below.refl _ _ | refine chain_alloc ?_ _) hb1
  have X1_0 : Box w1 (w.heap.size) 2 3 4 := Box.below (by repeat first | exact Box.new _ _ _ _ | refine Box.alloc ?_ _) hb1
  clear hb1
  obtain ⟨l1_0, c1_0, d1_0, f1_0⟩ := id X1_0
  go_wp2_with fail
  refine (head_off _).mono ?_
  rintro e w2 ⟨rfl, hb2⟩
  have HB2 : Hid (Below w.heap.size w w2) := chain (by repeat first | exact HB1.out | exact Below.refl _ _ | refine chain_alloc ?_ _) hb2
  have X2_0 : Box w2 (w.heap.size) 2 3 4 := Box.below (by repeat first | exact X1_0 | exact Box.new _ _ _ _ | refine Box.alloc ?_ _) hb2
  clear hb2 l1_0 c1_0 d1_0 f1_0 HB1 X1_0
  obtain ⟨l2_0, c2_0, d2_0, f2_0⟩ := id X2_0
  go_wp2_with fail
  refine (head_conv _).mono ?_
  rintro e w3 ⟨rfl, hb3⟩
  have HB3 : Hid (Below w.heap.size w w3) := chain (by repeat first | exact HB2.out | exact Below.refl _ _ | refine chain_alloc ?_ _) hb3
  have X3_0 : Box w3 (w.heap.size) 2 3 4 := Box.below (by repeat first | exact X2_0 | exact Box.new _ _ _ _ | refine Box.alloc ?_ _) hb3
  clear hb3 l2_0 c2_0 d2_0 f2_0 HB2 X2_0
  obtain ⟨l3_0, c3_0, d3_0, f3_0⟩ := id X3_0
  go_wp2_with fail
  refine (head_none _).mono ?_
  rintro e w4 ⟨rfl, hb4⟩
  have HB4 : Hid (Below w.heap.size w w4) := chain (by repeat first | exact HB3.out | exact Below.refl _ _ | refine chain_alloc ?_ _) hb4
  have X4_0 : Box w4 (w.heap.size) 2 3 4 := Box.below (by repeat first | exact X3_0 | exact Box.new _ _ _ _ | refine Box.alloc ?_ _) hb4
  have X4_1 : Box w4 (w3.heap.size) 5 1 2 := Box.below (by repeat first | exact Box.new _ _ _ _ | refine Box.alloc ?_ _) hb4
  clear hb4 l3_0 c3_0 d3_0 f3_0 HB3 X3_0
  obtain ⟨l4_0, c4_0, d4_0, f4_0⟩ := id X4_0
  obtain ⟨l4_1, c4_1, d4_1, f4_1⟩ := id X4_1
  go_wp2_with fail
  refine (head_pool _).mono ?_
  rintro e w5 ⟨rfl, hb5⟩
  have HB5 : Hid (Below w.heap.size w w5) := chain (by repeat first | exact HB4.out | exact Below.refl _ _ | refine chain_alloc ?_ _) hb5
  have X5_0 : Box w5 (w.heap.size) 2 3 4 := Box.below (by repeat first | exact X4_0 | exact Box.new _ _ _ _ | refine Box.alloc ?_ _) hb5
  have X5_1 : Box w5 (w3.heap.size) 5 1 2 := Box.below (by repeat first | exact X4_1 | exact Box.new _ _ _ _ | refine Box.alloc ?_ _) hb5
  have X5_2 : Box w5 (w4.heap.size) 0 0 0 := Box.below (by repeat first | exact Box.new _ _ _ _ | refine Box.alloc ?_ _) hb5
  clear hb5 l4_0 c4_0 d4_0 f4_0 l4_1 c4_1 d4_1 f4_1 HB4 X4_0 X4_1
  obtain ⟨l5_0, c5_0, d5_0, f5_0⟩ := id X5_0
  obtain ⟨l5_1, c5_1, d5_1, f5_1⟩ := id X5_1
  obtain ⟨l5_2, c5_2, d5_2, f5_2⟩ := id X5_2
  go_wp2_with fail
  refine (head_cut _).mono ?_
  rintro e w6 ⟨rfl, hb6⟩
  have HB6 : Hid (Below w.heap.size w w6) := chain (by repeat first | exact HB5.out | exact Below.refl _ _ | refine chain_alloc ?_ _) hb6
  have X6_0 : Box w6 (w.heap.size) 2 3 4 := Box.below (by repeat first | exact X5_0 | exact Box.new _ _ _ _ | refine Box.alloc ?_ _) hb6
  have X6_1 : Box w6 (w3.heap.size) 5 1 2 := Box.below (by repeat first | exact X5_1 | exact Box.new _ _ _ _ | refine Box.alloc ?_ _) hb6
  have X6_2 : Box w6 (w4.heap.size) 0 0 0 := Box.below (by repeat first | exact X5_2 | exact Box.new _ _ _ _ | refine Box.alloc ?_ _) hb6
  have X6_3 : Box w6 (w5.heap.size) 2 2 3 := Box.below (by repeat first | exact Box.new _ _ _ _ | refine Box.alloc ?_ _) hb6
  clear hb6 l5_0 c5_0 d5_0 f5_0 l5_1 c5_1 d5_1 f5_1 l5_2 c5_2 d5_2 f5_2 HB5 X5_0 X5_1 X5_2
  obtain ⟨l6_0, c6_0, d6_0, f6_0⟩ := id X6_0
  obtain ⟨l6_1, c6_1, d6_1, f6_1⟩ := id X6_1
  obtain ⟨l6_2, c6_2, d6_2, f6_2⟩ := id X6_2
  obtain ⟨l6_3, c6_3, d6_3, f6_3⟩ := id X6_3
  go_wp2_with fail
  refine (head_right _).mono ?_
  rintro e w7 ⟨rfl, hb7⟩
  have HB7 : Hid (Below w.heap.size w w7) := chain (by repeat first | exact HB6.out | exact Below.refl _ _ | refine chain_alloc ?_ _) hb7
  have X7_0 : Box w7 (w.heap.size) 2 3 4 := Box.below (by repeat first | exact X6_0 | exact Box.new _ _ _ _ | refine Box.alloc ?_ _) hb7
  have X7_1 : Box w7 (w3.heap.size) 5 1 2 := Box.below (by repeat first | exact X6_1 | exact Box.new _ _ _ _ | refine Box.alloc ?_ _) hb7
  have X7_2 : Box w7 (w4.heap.size) 0 0 0 := Box.below (by repeat first | exact X6_2 | exact Box.new _ _ _ _ | refine Box.alloc ?_ _) hb7
  have X7_3 : Box w7 (w5.heap.size) 2 2 3 := Box.below (by repeat first | exact X6_3 | exact Box.new _ _ _ _ | refine Box.alloc ?_ _) hb7
  have X7_4 : Box w7 (w6.heap.size) 0 0 0 := Box.below (by repeat first | exact Box.new _ _ _ _ | refine Box.alloc ?_ _) hb7
  clear hb7 l6_0 c6_0 d6_0 f6_0 l6_1 c6_1 d6_1 f6_1 l6_2 c6_2 d6_2 f6_2 l6_3 c6_3 d6_3 f6_3 HB6 X6_0 X6_1 X6_2 X6_3
  obtain ⟨l7_0, c7_0, d7_0, f7_0⟩ := id X7_0
  obtain ⟨l7_1, c7_1, d7_1, f7_1⟩ := id X7_1
  obtain ⟨l7_2, c7_2, d7_2, f7_2⟩ := id X7_2
  obtain ⟨l7_3, c7_3, d7_3, f7_3⟩ := id X7_3
  obtain ⟨l7_4, c7_4, d7_4, f7_4⟩ := id X7_4
  go_wp2_with fail
  refine (head_great _).mono ?_
  rintro e w8 ⟨rfl, hb8⟩
  have HB8 : Hid (Below w.heap.size w w8) := chain (by repeat first | exact HB7.out | exact Below.refl _ _ | refine chain_alloc ?_ _) hb8
  have X8_0 : Box w8 (w.heap.size) 2 3 4 := Box.below (by repeat first | exact X7_0 | exact Box.new _ _ _ _ | refine Box.alloc ?_ _) hb8
  have X8_1 : Box w8 (w3.heap.size) 5 1 2 := Box.below (by repeat first | exact X7_1 | exact Box.new _ _ _ _ | refine Box.alloc ?_ _) hb8
  have X8_2 : Box w8 (w4.heap.size) 0 0 0 := Box.below (by repeat first | exact X7_2 | exact Box.new _ _ _ _ | refine Box.alloc ?_ _) hb8
  have X8_3 : Box w8 (w5.heap.size) 2 2 3 := Box.below (by repeat first | exact X7_3 | exact Box.new _ _ _ _ | refine Box.alloc ?_ _) hb8
  have X8_4 : Box w8 (w6.heap.size) 0 0 0 := Box.below (by repeat first | exact X7_4 | exact Box.new _ _ _ _ | refine Box.alloc ?_ _) hb8
  clear hb8 l7_0 c7_0 d7_0 f7_0 l7_1 c7_1 d7_1 f7_1 l7_2 c7_2 d7_2 f7_2 l7_3 c7_3 d7_3 f7_3 l7_4 c7_4 d7_4 f7_4 HB7 X7_0 X7_1 X7_2 X7_3 X7_4
  obtain ⟨l8_0, c8_0, d8_0, f8_0⟩ := id X8_0
  obtain ⟨l8_1, c8_1, d8_1, f8_1⟩ := id X8_1
  obtain ⟨l8_2, c8_2, d8_2, f8_2⟩ := id X8_2
  obtain ⟨l8_3, c8_3, d8_3, f8_3⟩ := id X8_3
  obtain ⟨l8_4, c8_4, d8_4, f8_4⟩ := id X8_4
  go_wp2_with fail
  refine (head_size _).mono ?_
  rintro e w9 ⟨rfl, hb9⟩
  have HB9 : Hid (Below w.heap.size w w9) := chain (by repeat first | exact HB8.out | exact Below.refl _ _ | refine chain_alloc ?_ _) hb9
  have X9_0 : Box w9 (w.heap.size) 2 3 4 := Box.below (by repeat first | exact X8_0 | exact Box.new _ _ _ _ | refine Box.alloc ?_ _) hb9
  have X9_1 : Box w9 (w3.heap.size) 5 1 2 := Box.below (by repeat first | exact X8_1 | exact Box.new _ _ _ _ | refine Box.alloc ?_ _) hb9
  have X9_2 : Box w9 (w4.heap.size) 0 0 0 := Box.below (by repeat first | exact X8_2 | exact Box.new _ _ _ _ | refine Box.alloc ?_ _) hb9
  have X9_3 : Box w9 (w5.heap.size) 2 2 3 := Box.below (by repeat first | exact X8_3 | exact Box.new _ _ _ _ | refine Box.alloc ?_ _) hb9
  have X9_4 : Box w9 (w6.heap.size) 0 0 0 := Box.below (by repeat first | exact X8_4 | exact Box.new _ _ _ _ | refine Box.alloc ?_ _) hb9
  clear hb9 l8_0 c8_0 d8_0 f8_0 l8_1 c8_1 d8_1 f8_1 l8_2 c8_2 d8_2 f8_2 l8_3 c8_3 d8_3 f8_3 l8_4 c8_4 d8_4 f8_4 HB8 X8_0 X8_1 X8_2 X8_3 X8_4
  obtain ⟨l9_0, c9_0, d9_0, f9_0⟩ := id X9_0
  obtain ⟨l9_1, c9_1, d9_1, f9_1⟩ := id X9_1
  obtain ⟨l9_2, c9_2, d9_2, f9_2⟩ := id X9_2
  obtain ⟨l9_3, c9_3, d9_3, f9_3⟩ := id X9_3
  obtain ⟨l9_4, c9_4, d9_4, f9_4⟩ := id X9_4
  go_wp2_with fail
  refine (head_at _).mono ?_
  rintro e w10 ⟨rfl, hb10⟩
  have HB10 : Hid (Below w.heap.size w w10) := chain (by repeat first | exact HB9.out | exact Below.refl _ _ | refine chain_alloc ?_ _) hb10
  have X10_0 : Box w10 (w.heap.size) 2 3 4 := Box.below (by repeat first | exact X9_0 | exact Box.new _ _ _ _ | refine Box.alloc ?_ _) hb10
  have X10_1 : Box w10 (w3.heap.size) 5 1 2 := Box.below (by repeat first | exact X9_1 | exact Box.new _ _ _ _ | refine Box.alloc ?_ _) hb10
  have X10_2 : Box w10 (w4.heap.size) 0 0 0 := Box.below (by repeat first | exact X9_2 | exact Box.new _ _ _ _ | refine Box.alloc ?_ _) hb10
  have X10_3 : Box w10 (w5.heap.size) 2 2 3 := Box.below (by repeat first | exact X9_3 | exact Box.new _ _ _ _ | refine Box.alloc ?_ _) hb10
  have X10_4 : Box w10 (w6.heap.size) 0 0 0 := Box.below (by repeat first | exact X9_4 | exact Box.new _ _ _ _ | refine Box.alloc ?_ _) hb10
  clear hb10 l9_0 c9_0 d9_0 f9_0 l9_1 c9_1 d9_1 f9_1 l9_2 c9_2 d9_2 f9_2 l9_3 c9_3 d9_3 f9_3 l9_4 c9_4 d9_4 f9_4 HB9 X9_0 X9_1 X9_2 X9_3 X9_4
  obtain ⟨l10_0, c10_0, d10_0, f10_0⟩ := id X10_0
  obtain ⟨l10_1, c10_1, d10_1, f10_1⟩ := id X10_1
  obtain ⟨l10_2, c10_2, d10_2, f10_2⟩ := id X10_2
  obtain ⟨l10_3, c10_3, d10_3, f10_3⟩ := id X10_3
  obtain ⟨l10_4, c10_4, d10_4, f10_4⟩ := id X10_4
  go_wp2_with fail
  refine (head_out _).mono ?_
  rintro e w11 ⟨rfl, hb11⟩
  have HB11 : Hid (Below w.heap.size w w11) := chain (by repeat first | exact HB10.out | exact Below.refl _ _ | refine chain_alloc ?_ _) hb11
  have X11_0 : Box w11 (w.heap.size) 2 3 4 := Box.below (by repeat first | exact X10_0 | exact Box.new _ _ _ _ | refine Box.alloc ?_ _) hb11
  have X11_1 : Box w11 (w3.heap.size) 5 1 2 := Box.below (by repeat first | exact X10_1 | exact Box.new _ _ _ _ | refine Box.alloc ?_ _) hb11
  have X11_2 : Box w11 (w4.heap.size) 0 0 0 := Box.below (by repeat first | exact X10_2 | exact Box.new _ _ _ _ | refine Box.alloc ?_ _) hb11
  have X11_3 : Box w11 (w5.heap.size) 2 2 3 := Box.below (by repeat first | exact X10_3 | exact Box.new _ _ _ _ | refine Box.alloc ?_ _) hb11
  have X11_4 : Box w11 (w6.heap.size) 0 0 0 := Box.below (by repeat first | exact X10_4 | exact Box.new _ _ _ _ | refine Box.alloc ?_ _) hb11
  clear hb11 l10_0 c10_0 d10_0 f10_0 l10_1 c10_1 d10_1 f10_1 l10_2 c10_2 d10_2 f10_2 l10_3 c10_3 d10_3 f10_3 l10_4 c10_4 d10_4 f10_4 HB10 X10_0 X10_1 X10_2 X10_3 X10_4
  obtain ⟨l11_0, c11_0, d11_0, f11_0⟩ := id X11_0
  obtain ⟨l11_1, c11_1, d11_1, f11_1⟩ := id X11_1
  obtain ⟨l11_2, c11_2, d11_2, f11_2⟩ := id X11_2
  obtain ⟨l11_3, c11_3, d11_3, f11_3⟩ := id X11_3
  obtain ⟨l11_4, c11_4, d11_4, f11_4⟩ := id X11_4
  go_wp2_with fail
  go_ret
  exact ⟨rfl, HB11.out⟩

end Go.Proofs.Ytemkloomigijjaa
