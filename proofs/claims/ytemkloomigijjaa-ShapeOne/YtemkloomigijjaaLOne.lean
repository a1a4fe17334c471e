/-
  What ShapeOne answers: true, whatever it is asked.
-/
import Derived.Test.YtemkloomigijjaaIs
namespace Go.Proofs.Ytemkloomigijjaa
open Go.RowKit

set_option maxHeartbeats 1000000 in
set_option maxRecDepth 100000 in
theorem one_wrong_h (c h x out : Int) (w : World) (o1 : 0 ≤ out) (o2 : out ≤ 255) (r : rightB c h x = false) (hm : h ≤ x) : Calls Try.prog 8 #[.agg #[.int .i64 c, .int .i64 h, .int .i64 x], .int .u8 out] w fun e w' => e = .returned (.bool true) ∧ Below w.heap.size w w' := by
  have no : ∀ a b d, convB c h x a b d = false := fun a b d => convB_no (fun h => by rw [r] at h; cases h.1)
  have n1 := conv_none (no (out % 8 + 1) 1 1)
  have n2 := conv_none (no (out % 8 + 1) h 12)
  have HA : Hid (convC c h x (out % 8 + 1) 1 1 = 0 ∧ convH c h x (out % 8 + 1) 1 1 = 0 ∧ convW c h x (out % 8 + 1) 1 1 = 0 ∧ convB c h x (out % 8 + 1) 1 1 = false) := ⟨n1.1, n1.2.1, n1.2.2, no _ _ _⟩
  have HB : Hid (convC c h x (out % 8 + 1) h 12 = 0 ∧ convH c h x (out % 8 + 1) h 12 = 0 ∧ convW c h x (out % 8 + 1) h 12 = 0 ∧ convB c h x (out % 8 + 1) h 12 = false) := ⟨n2.1, n2.2.1, n2.2.2, no _ _ _⟩
  have HR := Lib.hid r
  clear no n1 n2 r
  go_enter Try.func8, Try.ntmps8
  go_wp2_with fail
  refine (head_any _).mono ?_
  rintro e w1 ⟨rfl, hb1⟩
  have HB1 : Hid (Below w.heap.size w w1) := chain (by repeat first | exact Below.refl _ _ | refine chain_alloc ?_ _) hb1
  have X1_0 : Box w1 (w.heap.size) c h x := Box.below (by repeat first | exact Box.new _ _ _ _ | refine Box.alloc ?_ _) hb1
  clear hb1
  obtain ⟨l1_0, c1_0, d1_0, f1_0⟩ := id X1_0
  go_wp2_with fail
  refine (conv_to c h x (out % 8 + 1) 1 1 0 0 0 false HA.out _).mono ?_
  rintro e w2 ⟨rfl, hb2⟩
  have HB2 : Hid (Below w.heap.size w w2) := chain (by repeat first | exact HB1.out | exact Below.refl _ _ | refine chain_alloc ?_ _) hb2
  have X2_0 : Box w2 (w.heap.size) c h x := Box.below (by repeat first | exact X1_0 | exact Box.new _ _ _ _ | refine Box.alloc ?_ _) hb2
  clear hb2 l1_0 c1_0 d1_0 f1_0 HB1 X1_0
  obtain ⟨l2_0, c2_0, d2_0, f2_0⟩ := id X2_0
  go_wp2_with fail
  refine (conv_to c h x (out % 8 + 1) h 12 0 0 0 false HB.out _).mono ?_
  rintro e w3 ⟨rfl, hb3⟩
  have HB3 : Hid (Below w.heap.size w w3) := chain (by repeat first | exact HB2.out | exact Below.refl _ _ | refine chain_alloc ?_ _) hb3
  have X3_0 : Box w3 (w.heap.size) c h x := Box.below (by repeat first | exact X2_0 | exact Box.new _ _ _ _ | refine Box.alloc ?_ _) hb3
  have X3_1 : Box w3 (w2.heap.size) 0 0 0 := Box.below (by repeat first | exact Box.new _ _ _ _ | refine Box.alloc ?_ _) hb3
  clear hb3 l2_0 c2_0 d2_0 f2_0 HB2 X2_0
  obtain ⟨l3_0, c3_0, d3_0, f3_0⟩ := id X3_0
  obtain ⟨l3_1, c3_1, d3_1, f3_1⟩ := id X3_1
  go_wp2_with fail
  refine (right_is c h x false HR.out _).mono ?_
  rintro e w4 ⟨rfl, hb4⟩
  have HB4 : Hid (Below w.heap.size w w4) := chain (by repeat first | exact HB3.out | exact Below.refl _ _ | refine chain_alloc ?_ _) hb4
  have X4_0 : Box w4 (w.heap.size) c h x := Box.below (by repeat first | exact X3_0 | exact Box.new _ _ _ _ | refine Box.alloc ?_ _) hb4
  have X4_1 : Box w4 (w2.heap.size) 0 0 0 := Box.below (by repeat first | exact X3_1 | exact Box.new _ _ _ _ | refine Box.alloc ?_ _) hb4
  have X4_2 : Box w4 (w3.heap.size) 0 0 0 := Box.below (by repeat first | exact Box.new _ _ _ _ | refine Box.alloc ?_ _) hb4
  clear hb4 l3_0 c3_0 d3_0 f3_0 l3_1 c3_1 d3_1 f3_1 HB3 X3_0 X3_1
  obtain ⟨l4_0, c4_0, d4_0, f4_0⟩ := id X4_0
  obtain ⟨l4_1, c4_1, d4_1, f4_1⟩ := id X4_1
  obtain ⟨l4_2, c4_2, d4_2, f4_2⟩ := id X4_2
  go_wp2_with fail
  go_ret
  exact ⟨rfl, by repeat first | exact HB4.out | refine chain_alloc ?_ _⟩

set_option maxHeartbeats 1000000 in
set_option maxRecDepth 100000 in
theorem one_true_h (c h x out : Int) (w : World) (o1 : 0 ≤ out) (o2 : out ≤ 255) (r : rightB c h x = true) (hm : h ≤ x)
    (ha : convC c h x (out % 8 + 1) 1 1 = (out % 8 + 1) ∧ convH c h x (out % 8 + 1) 1 1 = h ∧ convW c h x (out % 8 + 1) 1 1 = x ∧ convB c h x (out % 8 + 1) 1 1 = true)
    (hb : convC c h x (out % 8 + 1) h 12 = (out % 8 + 1) ∧ convH c h x (out % 8 + 1) h 12 = 1 ∧ convW c h x (out % 8 + 1) h 12 = 1 ∧ convB c h x (out % 8 + 1) h 12 = true) (f : decide ((out % 8 + 1) * h * x ≤ 128) = true)
    (b1 : 1 ≤ (out % 8 + 1) * h) (b2 : (out % 8 + 1) * h ≤ 96) (b3 : 1 ≤ (out % 8 + 1) * h * x) (b4 : (out % 8 + 1) * h * x ≤ 1152) : Calls Try.prog 8 #[.agg #[.int .i64 c, .int .i64 h, .int .i64 x], .int .u8 out] w fun e w' => e = .returned (.bool true) ∧ Below w.heap.size w w' := by
  have q1 := fun w => shape_eq (out % 8 + 1) h x (out % 8 + 1) h x w true (by simp)
  have q2 := fun w => shape_eq (out % 8 + 1) 1 1 (out % 8 + 1) 1 1 w true (by simp)
  have HA := Lib.hid ha; clear ha
  have HB := Lib.hid hb; clear hb
  have HR := Lib.hid r; clear r
  go_enter Try.func8, Try.ntmps8
  go_wp2_with fail
  refine (head_any _).mono ?_
  rintro e w1 ⟨rfl, hb1⟩
  have HB1 : Hid (Below w.heap.size w w1) := chain (by repeat first | exact Below.refl _ _ | refine chain_alloc ?_ _) hb1
  have X1_0 : Box w1 (w.heap.size) c h x := Box.below (by repeat first | exact Box.new _ _ _ _ | refine Box.alloc ?_ _) hb1
  clear hb1
  obtain ⟨l1_0, c1_0, d1_0, f1_0⟩ := id X1_0
  go_wp2_with fail
  refine (conv_to c h x (out % 8 + 1) 1 1 (out % 8 + 1) h x true HA.out _).mono ?_
  rintro e w2 ⟨rfl, hb2⟩
  have HB2 : Hid (Below w.heap.size w w2) := chain (by repeat first | exact HB1.out | exact Below.refl _ _ | refine chain_alloc ?_ _) hb2
  have X2_0 : Box w2 (w.heap.size) c h x := Box.below (by repeat first | exact X1_0 | exact Box.new _ _ _ _ | refine Box.alloc ?_ _) hb2
  clear hb2 l1_0 c1_0 d1_0 f1_0 HB1 X1_0
  obtain ⟨l2_0, c2_0, d2_0, f2_0⟩ := id X2_0
  go_wp2_with fail
  refine (conv_to c h x (out % 8 + 1) h 12 (out % 8 + 1) 1 1 true HB.out _).mono ?_
  rintro e w3 ⟨rfl, hb3⟩
  have HB3 : Hid (Below w.heap.size w w3) := chain (by repeat first | exact HB2.out | exact Below.refl _ _ | refine chain_alloc ?_ _) hb3
  have X3_0 : Box w3 (w.heap.size) c h x := Box.below (by repeat first | exact X2_0 | exact Box.new _ _ _ _ | refine Box.alloc ?_ _) hb3
  have X3_1 : Box w3 (w2.heap.size) (out % 8 + 1) h x := Box.below (by repeat first | exact Box.new _ _ _ _ | refine Box.alloc ?_ _) hb3
  clear hb3 l2_0 c2_0 d2_0 f2_0 HB2 X2_0
  obtain ⟨l3_0, c3_0, d3_0, f3_0⟩ := id X3_0
  obtain ⟨l3_1, c3_1, d3_1, f3_1⟩ := id X3_1
  go_wp2_with fail
  refine (right_is c h x true HR.out _).mono ?_
  rintro e w4 ⟨rfl, hb4⟩
  have HB4 : Hid (Below w.heap.size w w4) := chain (by repeat first | exact HB3.out | exact Below.refl _ _ | refine chain_alloc ?_ _) hb4
  have X4_0 : Box w4 (w.heap.size) c h x := Box.below (by repeat first | exact X3_0 | exact Box.new _ _ _ _ | refine Box.alloc ?_ _) hb4
  have X4_1 : Box w4 (w2.heap.size) (out % 8 + 1) h x := Box.below (by repeat first | exact X3_1 | exact Box.new _ _ _ _ | refine Box.alloc ?_ _) hb4
  have X4_2 : Box w4 (w3.heap.size) (out % 8 + 1) 1 1 := Box.below (by repeat first | exact Box.new _ _ _ _ | refine Box.alloc ?_ _) hb4
  clear hb4 l3_0 c3_0 d3_0 f3_0 l3_1 c3_1 d3_1 f3_1 HB3 X3_0 X3_1
  obtain ⟨l4_0, c4_0, d4_0, f4_0⟩ := id X4_0
  obtain ⟨l4_1, c4_1, d4_1, f4_1⟩ := id X4_1
  obtain ⟨l4_2, c4_2, d4_2, f4_2⟩ := id X4_2
  go_wp2_with fail
  go_ret
  exact ⟨rfl, by repeat first | exact HB4.out | refine chain_alloc ?_ _⟩

set_option maxHeartbeats 1000000 in
set_option maxRecDepth 100000 in
theorem one_false_h (c h x out : Int) (w : World) (o1 : 0 ≤ out) (o2 : out ≤ 255) (r : rightB c h x = true) (hm : h ≤ x)
    (ha : convC c h x (out % 8 + 1) 1 1 = 0 ∧ convH c h x (out % 8 + 1) 1 1 = 0 ∧ convW c h x (out % 8 + 1) 1 1 = 0 ∧ convB c h x (out % 8 + 1) 1 1 = false)
    (hb : convC c h x (out % 8 + 1) h 12 = (out % 8 + 1) ∧ convH c h x (out % 8 + 1) h 12 = 1 ∧ convW c h x (out % 8 + 1) h 12 = 1 ∧ convB c h x (out % 8 + 1) h 12 = true) (f : decide ((out % 8 + 1) * h * x ≤ 128) = false)
    (b1 : 1 ≤ (out % 8 + 1) * h) (b2 : (out % 8 + 1) * h ≤ 96) (b3 : 1 ≤ (out % 8 + 1) * h * x) (b4 : (out % 8 + 1) * h * x ≤ 1152) : Calls Try.prog 8 #[.agg #[.int .i64 c, .int .i64 h, .int .i64 x], .int .u8 out] w fun e w' => e = .returned (.bool true) ∧ Below w.heap.size w w' := by
  skip
  have q2 := fun w => shape_eq (out % 8 + 1) 1 1 (out % 8 + 1) 1 1 w true (by simp)
  have HA := Lib.hid ha; clear ha
  have HB := Lib.hid hb; clear hb
  have HR := Lib.hid r; clear r
  go_enter Try.func8, Try.ntmps8
  go_wp2_with fail
  refine (head_any _).mono ?_
  rintro e w1 ⟨rfl, hb1⟩
  have HB1 : Hid (Below w.heap.size w w1) := chain (by repeat first | exact Below.refl _ _ | refine chain_alloc ?_ _) hb1
  have X1_0 : Box w1 (w.heap.size) c h x := Box.below (by repeat first | exact Box.new _ _ _ _ | refine Box.alloc ?_ _) hb1
  clear hb1
  obtain ⟨l1_0, c1_0, d1_0, f1_0⟩ := id X1_0
  go_wp2_with fail
  refine (conv_to c h x (out % 8 + 1) 1 1 0 0 0 false HA.out _).mono ?_
  rintro e w2 ⟨rfl, hb2⟩
  have HB2 : Hid (Below w.heap.size w w2) := chain (by repeat first | exact HB1.out | exact Below.refl _ _ | refine chain_alloc ?_ _) hb2
  have X2_0 : Box w2 (w.heap.size) c h x := Box.below (by repeat first | exact X1_0 | exact Box.new _ _ _ _ | refine Box.alloc ?_ _) hb2
  clear hb2 l1_0 c1_0 d1_0 f1_0 HB1 X1_0
  obtain ⟨l2_0, c2_0, d2_0, f2_0⟩ := id X2_0
  go_wp2_with fail
  refine (conv_to c h x (out % 8 + 1) h 12 (out % 8 + 1) 1 1 true HB.out _).mono ?_
  rintro e w3 ⟨rfl, hb3⟩
  have HB3 : Hid (Below w.heap.size w w3) := chain (by repeat first | exact HB2.out | exact Below.refl _ _ | refine chain_alloc ?_ _) hb3
  have X3_0 : Box w3 (w.heap.size) c h x := Box.below (by repeat first | exact X2_0 | exact Box.new _ _ _ _ | refine Box.alloc ?_ _) hb3
  have X3_1 : Box w3 (w2.heap.size) 0 0 0 := Box.below (by repeat first | exact Box.new _ _ _ _ | refine Box.alloc ?_ _) hb3
  clear hb3 l2_0 c2_0 d2_0 f2_0 HB2 X2_0
  obtain ⟨l3_0, c3_0, d3_0, f3_0⟩ := id X3_0
  obtain ⟨l3_1, c3_1, d3_1, f3_1⟩ := id X3_1
  go_wp2_with fail
  refine (right_is c h x true HR.out _).mono ?_
  rintro e w4 ⟨rfl, hb4⟩
  have HB4 : Hid (Below w.heap.size w w4) := chain (by repeat first | exact HB3.out | exact Below.refl _ _ | refine chain_alloc ?_ _) hb4
  have X4_0 : Box w4 (w.heap.size) c h x := Box.below (by repeat first | exact X3_0 | exact Box.new _ _ _ _ | refine Box.alloc ?_ _) hb4
  have X4_1 : Box w4 (w2.heap.size) 0 0 0 := Box.below (by repeat first | exact X3_1 | exact Box.new _ _ _ _ | refine Box.alloc ?_ _) hb4
  have X4_2 : Box w4 (w3.heap.size) (out % 8 + 1) 1 1 := Box.below (by repeat first | exact Box.new _ _ _ _ | refine Box.alloc ?_ _) hb4
  clear hb4 l3_0 c3_0 d3_0 f3_0 l3_1 c3_1 d3_1 f3_1 HB3 X3_0 X3_1
  obtain ⟨l4_0, c4_0, d4_0, f4_0⟩ := id X4_0
  obtain ⟨l4_1, c4_1, d4_1, f4_1⟩ := id X4_1
  obtain ⟨l4_2, c4_2, d4_2, f4_2⟩ := id X4_2
  go_wp2_with fail
  go_ret
  exact ⟨rfl, by repeat first | exact HB4.out | refine chain_alloc ?_ _⟩

set_option maxHeartbeats 1000000 in
set_option maxRecDepth 100000 in
theorem one_wrong_x (c h x out : Int) (w : World) (o1 : 0 ≤ out) (o2 : out ≤ 255) (r : rightB c h x = false) (hm : x < h) : Calls Try.prog 8 #[.agg #[.int .i64 c, .int .i64 h, .int .i64 x], .int .u8 out] w fun e w' => e = .returned (.bool true) ∧ Below w.heap.size w w' := by
  have no : ∀ a b d, convB c h x a b d = false := fun a b d => convB_no (fun h => by rw [r] at h; cases h.1)
  have n1 := conv_none (no (out % 8 + 1) 1 1)
  have n2 := conv_none (no (out % 8 + 1) x 12)
  have HA : Hid (convC c h x (out % 8 + 1) 1 1 = 0 ∧ convH c h x (out % 8 + 1) 1 1 = 0 ∧ convW c h x (out % 8 + 1) 1 1 = 0 ∧ convB c h x (out % 8 + 1) 1 1 = false) := ⟨n1.1, n1.2.1, n1.2.2, no _ _ _⟩
  have HB : Hid (convC c h x (out % 8 + 1) x 12 = 0 ∧ convH c h x (out % 8 + 1) x 12 = 0 ∧ convW c h x (out % 8 + 1) x 12 = 0 ∧ convB c h x (out % 8 + 1) x 12 = false) := ⟨n2.1, n2.2.1, n2.2.2, no _ _ _⟩
  have HR := Lib.hid r
  clear no n1 n2 r
  go_enter Try.func8, Try.ntmps8
  go_wp2_with fail
  refine (head_any _).mono ?_
  rintro e w1 ⟨rfl, hb1⟩
  have HB1 : Hid (Below w.heap.size w w1) := chain (by repeat first | exact Below.refl _ _ | refine chain_alloc ?_ _) hb1
  have X1_0 : Box w1 (w.heap.size) c h x := Box.below (by repeat first | exact Box.new _ _ _ _ | refine Box.alloc ?_ _) hb1
  clear hb1
  obtain ⟨l1_0, c1_0, d1_0, f1_0⟩ := id X1_0
  go_wp2_with fail
  refine (conv_to c h x (out % 8 + 1) 1 1 0 0 0 false HA.out _).mono ?_
  rintro e w2 ⟨rfl, hb2⟩
  have HB2 : Hid (Below w.heap.size w w2) := chain (by repeat first | exact HB1.out | exact Below.refl _ _ | refine chain_alloc ?_ _) hb2
  have X2_0 : Box w2 (w.heap.size) c h x := Box.below (by repeat first | exact X1_0 | exact Box.new _ _ _ _ | refine Box.alloc ?_ _) hb2
  clear hb2 l1_0 c1_0 d1_0 f1_0 HB1 X1_0
  obtain ⟨l2_0, c2_0, d2_0, f2_0⟩ := id X2_0
  go_wp2_with fail
  refine (conv_to c h x (out % 8 + 1) x 12 0 0 0 false HB.out _).mono ?_
  rintro e w3 ⟨rfl, hb3⟩
  have HB3 : Hid (Below w.heap.size w w3) := chain (by repeat first | exact HB2.out | exact Below.refl _ _ | refine chain_alloc ?_ _) hb3
  have X3_0 : Box w3 (w.heap.size) c h x := Box.below (by repeat first | exact X2_0 | exact Box.new _ _ _ _ | refine Box.alloc ?_ _) hb3
  have X3_1 : Box w3 (w2.heap.size) 0 0 0 := Box.below (by repeat first | exact Box.new _ _ _ _ | refine Box.alloc ?_ _) hb3
  clear hb3 l2_0 c2_0 d2_0 f2_0 HB2 X2_0
  obtain ⟨l3_0, c3_0, d3_0, f3_0⟩ := id X3_0
  obtain ⟨l3_1, c3_1, d3_1, f3_1⟩ := id X3_1
  go_wp2_with fail
  refine (right_is c h x false HR.out _).mono ?_
  rintro e w4 ⟨rfl, hb4⟩
  have HB4 : Hid (Below w.heap.size w w4) := chain (by repeat first | exact HB3.out | exact Below.refl _ _ | refine chain_alloc ?_ _) hb4
  have X4_0 : Box w4 (w.heap.size) c h x := Box.below (by repeat first | exact X3_0 | exact Box.new _ _ _ _ | refine Box.alloc ?_ _) hb4
  have X4_1 : Box w4 (w2.heap.size) 0 0 0 := Box.below (by repeat first | exact X3_1 | exact Box.new _ _ _ _ | refine Box.alloc ?_ _) hb4
  have X4_2 : Box w4 (w3.heap.size) 0 0 0 := Box.below (by repeat first | exact Box.new _ _ _ _ | refine Box.alloc ?_ _) hb4
  clear hb4 l3_0 c3_0 d3_0 f3_0 l3_1 c3_1 d3_1 f3_1 HB3 X3_0 X3_1
  obtain ⟨l4_0, c4_0, d4_0, f4_0⟩ := id X4_0
  obtain ⟨l4_1, c4_1, d4_1, f4_1⟩ := id X4_1
  obtain ⟨l4_2, c4_2, d4_2, f4_2⟩ := id X4_2
  go_wp2_with fail
  go_ret
  exact ⟨rfl, by repeat first | exact HB4.out | refine chain_alloc ?_ _⟩

set_option maxHeartbeats 1000000 in
set_option maxRecDepth 100000 in
theorem one_true_x (c h x out : Int) (w : World) (o1 : 0 ≤ out) (o2 : out ≤ 255) (r : rightB c h x = true) (hm : x < h)
    (ha : convC c h x (out % 8 + 1) 1 1 = (out % 8 + 1) ∧ convH c h x (out % 8 + 1) 1 1 = h ∧ convW c h x (out % 8 + 1) 1 1 = x ∧ convB c h x (out % 8 + 1) 1 1 = true)
    (hb : convC c h x (out % 8 + 1) x 12 = (out % 8 + 1) ∧ convH c h x (out % 8 + 1) x 12 = 1 ∧ convW c h x (out % 8 + 1) x 12 = 1 ∧ convB c h x (out % 8 + 1) x 12 = true) (f : decide ((out % 8 + 1) * h * x ≤ 128) = true)
    (b1 : 1 ≤ (out % 8 + 1) * h) (b2 : (out % 8 + 1) * h ≤ 96) (b3 : 1 ≤ (out % 8 + 1) * h * x) (b4 : (out % 8 + 1) * h * x ≤ 1152) : Calls Try.prog 8 #[.agg #[.int .i64 c, .int .i64 h, .int .i64 x], .int .u8 out] w fun e w' => e = .returned (.bool true) ∧ Below w.heap.size w w' := by
  have q1 := fun w => shape_eq (out % 8 + 1) h x (out % 8 + 1) h x w true (by simp)
  have q2 := fun w => shape_eq (out % 8 + 1) 1 1 (out % 8 + 1) 1 1 w true (by simp)
  have HA := Lib.hid ha; clear ha
  have HB := Lib.hid hb; clear hb
  have HR := Lib.hid r; clear r
  go_enter Try.func8, Try.ntmps8
  go_wp2_with fail
  refine (head_any _).mono ?_
  rintro e w1 ⟨rfl, hb1⟩
  have HB1 : Hid (Below w.heap.size w w1) := chain (by repeat first | exact Below.refl _ _ | refine chain_alloc ?_ _) hb1
  have X1_0 : Box w1 (w.heap.size) c h x := Box.below (by repeat first | exact Box.new _ _ _ _ | refine Box.alloc ?_ _) hb1
  clear hb1
  obtain ⟨l1_0, c1_0, d1_0, f1_0⟩ := id X1_0
  go_wp2_with fail
  refine (conv_to c h x (out % 8 + 1) 1 1 (out % 8 + 1) h x true HA.out _).mono ?_
  rintro e w2 ⟨rfl, hb2⟩
  have HB2 : Hid (Below w.heap.size w w2) := chain (by repeat first | exact HB1.out | exact Below.refl _ _ | refine chain_alloc ?_ _) hb2
  have X2_0 : Box w2 (w.heap.size) c h x := Box.below (by repeat first | exact X1_0 | exact Box.new _ _ _ _ | refine Box.alloc ?_ _) hb2
  clear hb2 l1_0 c1_0 d1_0 f1_0 HB1 X1_0
  obtain ⟨l2_0, c2_0, d2_0, f2_0⟩ := id X2_0
  go_wp2_with fail
  refine (conv_to c h x (out % 8 + 1) x 12 (out % 8 + 1) 1 1 true HB.out _).mono ?_
  rintro e w3 ⟨rfl, hb3⟩
  have HB3 : Hid (Below w.heap.size w w3) := chain (by repeat first | exact HB2.out | exact Below.refl _ _ | refine chain_alloc ?_ _) hb3
  have X3_0 : Box w3 (w.heap.size) c h x := Box.below (by repeat first | exact X2_0 | exact Box.new _ _ _ _ | refine Box.alloc ?_ _) hb3
  have X3_1 : Box w3 (w2.heap.size) (out % 8 + 1) h x := Box.below (by repeat first | exact Box.new _ _ _ _ | refine Box.alloc ?_ _) hb3
  clear hb3 l2_0 c2_0 d2_0 f2_0 HB2 X2_0
  obtain ⟨l3_0, c3_0, d3_0, f3_0⟩ := id X3_0
  obtain ⟨l3_1, c3_1, d3_1, f3_1⟩ := id X3_1
  go_wp2_with fail
  refine (right_is c h x true HR.out _).mono ?_
  rintro e w4 ⟨rfl, hb4⟩
  have HB4 : Hid (Below w.heap.size w w4) := chain (by repeat first | exact HB3.out | exact Below.refl _ _ | refine chain_alloc ?_ _) hb4
  have X4_0 : Box w4 (w.heap.size) c h x := Box.below (by repeat first | exact X3_0 | exact Box.new _ _ _ _ | refine Box.alloc ?_ _) hb4
  have X4_1 : Box w4 (w2.heap.size) (out % 8 + 1) h x := Box.below (by repeat first | exact X3_1 | exact Box.new _ _ _ _ | refine Box.alloc ?_ _) hb4
  have X4_2 : Box w4 (w3.heap.size) (out % 8 + 1) 1 1 := Box.below (by repeat first | exact Box.new _ _ _ _ | refine Box.alloc ?_ _) hb4
  clear hb4 l3_0 c3_0 d3_0 f3_0 l3_1 c3_1 d3_1 f3_1 HB3 X3_0 X3_1
  obtain ⟨l4_0, c4_0, d4_0, f4_0⟩ := id X4_0
  obtain ⟨l4_1, c4_1, d4_1, f4_1⟩ := id X4_1
  obtain ⟨l4_2, c4_2, d4_2, f4_2⟩ := id X4_2
  go_wp2_with fail
  go_ret
  exact ⟨rfl, by repeat first | exact HB4.out | refine chain_alloc ?_ _⟩

set_option maxHeartbeats 1000000 in
set_option maxRecDepth 100000 in
theorem one_false_x (c h x out : Int) (w : World) (o1 : 0 ≤ out) (o2 : out ≤ 255) (r : rightB c h x = true) (hm : x < h)
    (ha : convC c h x (out % 8 + 1) 1 1 = 0 ∧ convH c h x (out % 8 + 1) 1 1 = 0 ∧ convW c h x (out % 8 + 1) 1 1 = 0 ∧ convB c h x (out % 8 + 1) 1 1 = false)
    (hb : convC c h x (out % 8 + 1) x 12 = (out % 8 + 1) ∧ convH c h x (out % 8 + 1) x 12 = 1 ∧ convW c h x (out % 8 + 1) x 12 = 1 ∧ convB c h x (out % 8 + 1) x 12 = true) (f : decide ((out % 8 + 1) * h * x ≤ 128) = false)
    (b1 : 1 ≤ (out % 8 + 1) * h) (b2 : (out % 8 + 1) * h ≤ 96) (b3 : 1 ≤ (out % 8 + 1) * h * x) (b4 : (out % 8 + 1) * h * x ≤ 1152) : Calls Try.prog 8 #[.agg #[.int .i64 c, .int .i64 h, .int .i64 x], .int .u8 out] w fun e w' => e = .returned (.bool true) ∧ Below w.heap.size w w' := by
  skip
  have q2 := fun w => shape_eq (out % 8 + 1) 1 1 (out % 8 + 1) 1 1 w true (by simp)
  have HA := Lib.hid ha; clear ha
  have HB := Lib.hid hb; clear hb
  have HR := Lib.hid r; clear r
  go_enter Try.func8, Try.ntmps8
  go_wp2_with fail
  refine (head_any _).mono ?_
  rintro e w1 ⟨rfl, hb1⟩
  have HB1 : Hid (Below w.heap.size w w1) := chain (by repeat first | exact Below.refl _ _ | refine chain_alloc ?_ _) hb1
  have X1_0 : Box w1 (w.heap.size) c h x := Box.below (by repeat first | exact Box.new _ _ _ _ | refine Box.alloc ?_ _) hb1
  clear hb1
  obtain ⟨l1_0, c1_0, d1_0, f1_0⟩ := id X1_0
  go_wp2_with fail
  refine (conv_to c h x (out % 8 + 1) 1 1 0 0 0 false HA.out _).mono ?_
  rintro e w2 ⟨rfl, hb2⟩
  have HB2 : Hid (Below w.heap.size w w2) := chain (by repeat first | exact HB1.out | exact Below.refl _ _ | refine chain_alloc ?_ _) hb2
  have X2_0 : Box w2 (w.heap.size) c h x := Box.below (by repeat first | exact X1_0 | exact Box.new _ _ _ _ | refine Box.alloc ?_ _) hb2
  clear hb2 l1_0 c1_0 d1_0 f1_0 HB1 X1_0
  obtain ⟨l2_0, c2_0, d2_0, f2_0⟩ := id X2_0
  go_wp2_with fail
  refine (conv_to c h x (out % 8 + 1) x 12 (out % 8 + 1) 1 1 true HB.out _).mono ?_
  rintro e w3 ⟨rfl, hb3⟩
  have HB3 : Hid (Below w.heap.size w w3) := chain (by repeat first | exact HB2.out | exact Below.refl _ _ | refine chain_alloc ?_ _) hb3
  have X3_0 : Box w3 (w.heap.size) c h x := Box.below (by repeat first | exact X2_0 | exact Box.new _ _ _ _ | refine Box.alloc ?_ _) hb3
  have X3_1 : Box w3 (w2.heap.size) 0 0 0 := Box.below (by repeat first | exact Box.new _ _ _ _ | refine Box.alloc ?_ _) hb3
  clear hb3 l2_0 c2_0 d2_0 f2_0 HB2 X2_0
  obtain ⟨l3_0, c3_0, d3_0, f3_0⟩ := id X3_0
  obtain ⟨l3_1, c3_1, d3_1, f3_1⟩ := id X3_1
  go_wp2_with fail
  refine (right_is c h x true HR.out _).mono ?_
  rintro e w4 ⟨rfl, hb4⟩
  have HB4 : Hid (Below w.heap.size w w4) := chain (by repeat first | exact HB3.out | exact Below.refl _ _ | refine chain_alloc ?_ _) hb4
  have X4_0 : Box w4 (w.heap.size) c h x := Box.below (by repeat first | exact X3_0 | exact Box.new _ _ _ _ | refine Box.alloc ?_ _) hb4
  have X4_1 : Box w4 (w2.heap.size) 0 0 0 := Box.below (by repeat first | exact X3_1 | exact Box.new _ _ _ _ | refine Box.alloc ?_ _) hb4
  have X4_2 : Box w4 (w3.heap.size) (out % 8 + 1) 1 1 := Box.below (by repeat first | exact Box.new _ _ _ _ | refine Box.alloc ?_ _) hb4
  clear hb4 l3_0 c3_0 d3_0 f3_0 l3_1 c3_1 d3_1 f3_1 HB3 X3_0 X3_1
  obtain ⟨l4_0, c4_0, d4_0, f4_0⟩ := id X4_0
  obtain ⟨l4_1, c4_1, d4_1, f4_1⟩ := id X4_1
  obtain ⟨l4_2, c4_2, d4_2, f4_2⟩ := id X4_2
  go_wp2_with fail
  go_ret
  exact ⟨rfl, by repeat first | exact HB4.out | refine chain_alloc ?_ _⟩

theorem one_last {c h x n m : Int} (r : rightB c h x = true) (n1 : 1 ≤ n) (n2 : n ≤ 8) (hm : m = min h x) :
    convC c h x n m 12 = n ∧ convH c h x n m 12 = 1 ∧ convW c h x n m 12 = 1 ∧ convB c h x n m 12 = true := by
  obtain ⟨a1, a2, a3, a4, a5, a6, a7⟩ := rightB_out r
  have e1 : (h - m) / 12 + 1 = 1 := by omega
  have e2 : (x - m) / 12 + 1 = 1 := by omega
  have f : convB c h x n m 12 = true := convB_yes ⟨r, n1, n2, by omega, by omega, by omega, by omega, by rw [e1, e2]; exact rightB_yes (by omega)⟩
  have k := conv_is f
  rw [e1, e2] at k
  exact ⟨k.1, k.2.1, k.2.2, f⟩

theorem one_walk (c h x out : Int) (w : World) (o0 : 0 ≤ out ∧ out ≤ 255) : Calls Try.prog 8 #[.agg #[.int .i64 c, .int .i64 h, .int .i64 x], .int .u8 out] w fun e w' => e = .returned (.bool true) ∧ Below w.heap.size w w' := by
  obtain ⟨o1, o2⟩ := o0
  cases r : rightB c h x
  · by_cases hm : h ≤ x
    · exact one_wrong_h c h x out w o1 o2 r hm
    · exact one_wrong_x c h x out w o1 o2 r (by omega)
  obtain ⟨a1, a2, a3, a4, a5, a6, a7⟩ := rightB_out r
  have n1 : 1 ≤ (out % 8 + 1) := by omega
  have n2 : (out % 8 + 1) ≤ 8 := by omega
  obtain ⟨b1, b2, b3, b4, _, _⟩ := prod_small n1 n2 a3 a4 a5 a6
  have e1 : (h - 1) / 1 + 1 = h := by rw [Int.ediv_one]; omega
  have e2 : (x - 1) / 1 + 1 = x := by rw [Int.ediv_one]; omega
  by_cases g : (out % 8 + 1) * h * x ≤ 128
  · have f : convB c h x (out % 8 + 1) 1 1 = true := convB_yes ⟨r, n1, n2, by omega, by omega, by omega, by omega, by rw [e1, e2]; exact rightB_yes ⟨n1, n2, a3, a4, a5, a6, g⟩⟩
    have k := conv_is f
    rw [e1, e2] at k
    by_cases hm : h ≤ x
    · exact one_true_h c h x out w o1 o2 r hm ⟨k.1, k.2.1, k.2.2, f⟩ (one_last r n1 n2 (by omega)) (decide_eq_true g) b1 b2 b3 b4
    · exact one_true_x c h x out w o1 o2 r (by omega) ⟨k.1, k.2.1, k.2.2, f⟩ (one_last r n1 n2 (by omega)) (decide_eq_true g) b1 b2 b3 b4
  · have f : convB c h x (out % 8 + 1) 1 1 = false := convB_no (fun q => g (by have := q.2.2.2.2.2.2.2; rw [e1, e2] at this; exact (rightB_out this).2.2.2.2.2.2))
    have k := conv_none f
    by_cases hm : h ≤ x
    · exact one_false_h c h x out w o1 o2 r hm ⟨k.1, k.2.1, k.2.2, f⟩ (one_last r n1 n2 (by omega)) (decide_eq_false g) b1 b2 b3 b4
    · exact one_false_x c h x out w o1 o2 r (by omega) ⟨k.1, k.2.1, k.2.2, f⟩ (one_last r n1 n2 (by omega)) (decide_eq_false g) b1 b2 b3 b4

end Go.Proofs.Ytemkloomigijjaa
