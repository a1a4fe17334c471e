/-
  What ShapePlaces answers: true, whatever it is asked.
-/
import Derived.Test.YtemkloomigijjaaIs
namespace Go.Proofs.Ytemkloomigijjaa
open Go.RowKit

set_option maxHeartbeats 1000000 in
set_option maxRecDepth 100000 in
theorem places_in_yes (c h x k y z i : Int) (p n : Int) (hp : atI c h x k y z = p) (hn : sizeI c h x = n) (p0 : 0 ≤ p) (p1 : p < n) (ho : chI c h x p = k ∧ rowI c h x p = y ∧ colI c h x p = z ∧ hasB c h x p = true) (a b d : Int) (i0 : 0 ≤ i) (i1 : i < n) (hf : chI c h x i = a ∧ rowI c h x i = b ∧ colI c h x i = d ∧ hasB c h x i = true) (ht : atI c h x a b d = i) (w : World) :
    Calls Try.prog 4 #[.agg #[.int .i64 c, .int .i64 h, .int .i64 x], .int .i64 k, .int .i64 y, .int .i64 z, .int .i64 i] w fun e w' => e = .returned (.bool true) ∧ Below w.heap.size w w' := by
  have f1 : decide (p < -1) = false := decide_eq_false (by omega)
  have f2 : decide (n ≤ p) = false := decide_eq_false (by omega)
  have f3 : decide (0 ≤ p) = true := decide_eq_true p0
  have f4 : (n == 0) = false := by simp; omega
  have f5 : 1 ≤ n := by omega
  have g1 : decide (0 ≤ i) = true := decide_eq_true i0
  have g2 : decide (i < n) = true := decide_eq_true i1
  have HT := Lib.hid ht; clear ht
  have HP := Lib.hid hp; clear hp
  have HN := Lib.hid hn; clear hn
  have HO := Lib.hid ho; clear ho
  have HF := Lib.hid hf; clear hf
  go_enter Try.func4, Try.ntmps4
  go_wp2_with fail
  refine (head_any _).mono ?_
  rintro e w1 ⟨rfl, hb1⟩
  have HB1 : Hid (Below w.heap.size w w1) := chain (by repeat first | exact Below.refl _ _ | refine chain_alloc ?_ _) hb1
  have X1_0 : Box w1 (w.heap.size) c h x := Box.below (by repeat first | exact Box.new _ _ _ _ | refine Box.alloc ?_ _) hb1
  clear hb1
  obtain ⟨l1_0, c1_0, d1_0, f1_0⟩ := id X1_0
  go_wp2_with fail
  refine (at_is c h x k y z p HP.out _).mono ?_
  rintro e w2 ⟨rfl, hb2⟩
  have HB2 : Hid (Below w.heap.size w w2) := chain (by repeat first | exact HB1.out | exact Below.refl _ _ | refine chain_alloc ?_ _) hb2
  have X2_0 : Box w2 (w.heap.size) c h x := Box.below (by repeat first | exact X1_0 | exact Box.new _ _ _ _ | refine Box.alloc ?_ _) hb2
  clear hb2 l1_0 c1_0 d1_0 f1_0 HB1 X1_0
  obtain ⟨l2_0, c2_0, d2_0, f2_0⟩ := id X2_0
  go_wp2_with fail
  refine (size_is c h x n HN.out _).mono ?_
  rintro e w3 ⟨rfl, hb3⟩
  have HB3 : Hid (Below w.heap.size w w3) := chain (by repeat first | exact HB2.out | exact Below.refl _ _ | refine chain_alloc ?_ _) hb3
  have X3_0 : Box w3 (w.heap.size) c h x := Box.below (by repeat first | exact X2_0 | exact Box.new _ _ _ _ | refine Box.alloc ?_ _) hb3
  clear hb3 l2_0 c2_0 d2_0 f2_0 HB2 X2_0
  obtain ⟨l3_0, c3_0, d3_0, f3_0⟩ := id X3_0
  go_wp2_with fail
  refine (of_is c h x p k y z true HO.out _).mono ?_
  rintro e w4 ⟨rfl, hb4⟩
  have HB4 : Hid (Below w.heap.size w w4) := chain (by repeat first | exact HB3.out | exact Below.refl _ _ | refine chain_alloc ?_ _) hb4
  have X4_0 : Box w4 (w.heap.size) c h x := Box.below (by repeat first | exact X3_0 | exact Box.new _ _ _ _ | refine Box.alloc ?_ _) hb4
  clear hb4 l3_0 c3_0 d3_0 f3_0 HB3 X3_0
  obtain ⟨l4_0, c4_0, d4_0, f4_0⟩ := id X4_0
  go_wp2_with fail
  refine (of_is c h x i a b d true HF.out _).mono ?_
  rintro e w5 ⟨rfl, hb5⟩
  have HB5 : Hid (Below w.heap.size w w5) := chain (by repeat first | exact HB4.out | exact Below.refl _ _ | refine chain_alloc ?_ _) hb5
  have X5_0 : Box w5 (w.heap.size) c h x := Box.below (by repeat first | exact X4_0 | exact Box.new _ _ _ _ | refine Box.alloc ?_ _) hb5
  clear hb5 l4_0 c4_0 d4_0 f4_0 HB4 X4_0
  obtain ⟨l5_0, c5_0, d5_0, f5_0⟩ := id X5_0
  go_wp2_with fail
  refine (at_is c h x a b d i HT.out _).mono ?_
  rintro e w6 ⟨rfl, hb6⟩
  have HB6 : Hid (Below w.heap.size w w6) := chain (by repeat first | exact HB5.out | exact Below.refl _ _ | refine chain_alloc ?_ _) hb6
  have X6_0 : Box w6 (w.heap.size) c h x := Box.below (by repeat first | exact X5_0 | exact Box.new _ _ _ _ | refine Box.alloc ?_ _) hb6
  clear hb6 l5_0 c5_0 d5_0 f5_0 HB5 X5_0
  obtain ⟨l6_0, c6_0, d6_0, f6_0⟩ := id X6_0
  go_wp2_with fail
  go_ret
  exact ⟨rfl, HB6.out⟩

set_option maxHeartbeats 1000000 in
set_option maxRecDepth 100000 in
theorem places_in_low (c h x k y z i : Int) (p n : Int) (hp : atI c h x k y z = p) (hn : sizeI c h x = n) (p0 : 0 ≤ p) (p1 : p < n) (ho : chI c h x p = k ∧ rowI c h x p = y ∧ colI c h x p = z ∧ hasB c h x p = true) (i0 : i < 0) (hf : chI c h x i = 0 ∧ rowI c h x i = 0 ∧ colI c h x i = 0 ∧ hasB c h x i = false) (w : World) :
    Calls Try.prog 4 #[.agg #[.int .i64 c, .int .i64 h, .int .i64 x], .int .i64 k, .int .i64 y, .int .i64 z, .int .i64 i] w fun e w' => e = .returned (.bool true) ∧ Below w.heap.size w w' := by
  have f1 : decide (p < -1) = false := decide_eq_false (by omega)
  have f2 : decide (n ≤ p) = false := decide_eq_false (by omega)
  have f3 : decide (0 ≤ p) = true := decide_eq_true p0
  have f4 : (n == 0) = false := by simp; omega
  have f5 : 1 ≤ n := by omega
  have g1 : decide (0 ≤ i) = false := decide_eq_false (by omega)
  have HP := Lib.hid hp; clear hp
  have HN := Lib.hid hn; clear hn
  have HO := Lib.hid ho; clear ho
  have HF := Lib.hid hf; clear hf
  go_enter Try.func4, Try.ntmps4
  go_wp2_with fail
  refine (head_any _).mono ?_
  rintro e w1 ⟨rfl, hb1⟩
  have HB1 : Hid (Below w.heap.size w w1) := chain (by repeat first | exact Below.refl _ _ | refine chain_alloc ?_ _) hb1
  have X1_0 : Box w1 (w.heap.size) c h x := Box.below (by repeat first | exact Box.new _ _ _ _ | refine Box.alloc ?_ _) hb1
  clear hb1
  obtain ⟨l1_0, c1_0, d1_0, f1_0⟩ := id X1_0
  go_wp2_with fail
  refine (at_is c h x k y z p HP.out _).mono ?_
  rintro e w2 ⟨rfl, hb2⟩
  have HB2 : Hid (Below w.heap.size w w2) := chain (by repeat first | exact HB1.out | exact Below.refl _ _ | refine chain_alloc ?_ _) hb2
  have X2_0 : Box w2 (w.heap.size) c h x := Box.below (by repeat first | exact X1_0 | exact Box.new _ _ _ _ | refine Box.alloc ?_ _) hb2
  clear hb2 l1_0 c1_0 d1_0 f1_0 HB1 X1_0
  obtain ⟨l2_0, c2_0, d2_0, f2_0⟩ := id X2_0
  go_wp2_with fail
  refine (size_is c h x n HN.out _).mono ?_
  rintro e w3 ⟨rfl, hb3⟩
  have HB3 : Hid (Below w.heap.size w w3) := chain (by repeat first | exact HB2.out | exact Below.refl _ _ | refine chain_alloc ?_ _) hb3
  have X3_0 : Box w3 (w.heap.size) c h x := Box.below (by repeat first | exact X2_0 | exact Box.new _ _ _ _ | refine Box.alloc ?_ _) hb3
  clear hb3 l2_0 c2_0 d2_0 f2_0 HB2 X2_0
  obtain ⟨l3_0, c3_0, d3_0, f3_0⟩ := id X3_0
  go_wp2_with fail
  refine (of_is c h x p k y z true HO.out _).mono ?_
  rintro e w4 ⟨rfl, hb4⟩
  have HB4 : Hid (Below w.heap.size w w4) := chain (by repeat first | exact HB3.out | exact Below.refl _ _ | refine chain_alloc ?_ _) hb4
  have X4_0 : Box w4 (w.heap.size) c h x := Box.below (by repeat first | exact X3_0 | exact Box.new _ _ _ _ | refine Box.alloc ?_ _) hb4
  clear hb4 l3_0 c3_0 d3_0 f3_0 HB3 X3_0
  obtain ⟨l4_0, c4_0, d4_0, f4_0⟩ := id X4_0
  go_wp2_with fail
  refine (of_is c h x i 0 0 0 false HF.out _).mono ?_
  rintro e w5 ⟨rfl, hb5⟩
  have HB5 : Hid (Below w.heap.size w w5) := chain (by repeat first | exact HB4.out | exact Below.refl _ _ | refine chain_alloc ?_ _) hb5
  have X5_0 : Box w5 (w.heap.size) c h x := Box.below (by repeat first | exact X4_0 | exact Box.new _ _ _ _ | refine Box.alloc ?_ _) hb5
  clear hb5 l4_0 c4_0 d4_0 f4_0 HB4 X4_0
  obtain ⟨l5_0, c5_0, d5_0, f5_0⟩ := id X5_0
  go_wp2_with fail
  go_ret
  exact ⟨rfl, HB5.out⟩

set_option maxHeartbeats 1000000 in
set_option maxRecDepth 100000 in
theorem places_in_high (c h x k y z i : Int) (p n : Int) (hp : atI c h x k y z = p) (hn : sizeI c h x = n) (p0 : 0 ≤ p) (p1 : p < n) (ho : chI c h x p = k ∧ rowI c h x p = y ∧ colI c h x p = z ∧ hasB c h x p = true) (i0 : 0 ≤ i) (i1 : n ≤ i) (hf : chI c h x i = 0 ∧ rowI c h x i = 0 ∧ colI c h x i = 0 ∧ hasB c h x i = false) (w : World) :
    Calls Try.prog 4 #[.agg #[.int .i64 c, .int .i64 h, .int .i64 x], .int .i64 k, .int .i64 y, .int .i64 z, .int .i64 i] w fun e w' => e = .returned (.bool true) ∧ Below w.heap.size w w' := by
  have f1 : decide (p < -1) = false := decide_eq_false (by omega)
  have f2 : decide (n ≤ p) = false := decide_eq_false (by omega)
  have f3 : decide (0 ≤ p) = true := decide_eq_true p0
  have f4 : (n == 0) = false := by simp; omega
  have f5 : 1 ≤ n := by omega
  have g1 : decide (0 ≤ i) = true := decide_eq_true i0
  have g2 : decide (i < n) = false := decide_eq_false (by omega)
  have HP := Lib.hid hp; clear hp
  have HN := Lib.hid hn; clear hn
  have HO := Lib.hid ho; clear ho
  have HF := Lib.hid hf; clear hf
  go_enter Try.func4, Try.ntmps4
  go_wp2_with fail
  refine (head_any _).mono ?_
  rintro e w1 ⟨rfl, hb1⟩
  have HB1 : Hid (Below w.heap.size w w1) := chain (by repeat first | exact Below.refl _ _ | refine chain_alloc ?_ _) hb1
  have X1_0 : Box w1 (w.heap.size) c h x := Box.below (by repeat first | exact Box.new _ _ _ _ | refine Box.alloc ?_ _) hb1
  clear hb1
  obtain ⟨l1_0, c1_0, d1_0, f1_0⟩ := id X1_0
  go_wp2_with fail
  refine (at_is c h x k y z p HP.out _).mono ?_
  rintro e w2 ⟨rfl, hb2⟩
  have HB2 : Hid (Below w.heap.size w w2) := chain (by repeat first | exact HB1.out | exact Below.refl _ _ | refine chain_alloc ?_ _) hb2
  have X2_0 : Box w2 (w.heap.size) c h x := Box.below (by repeat first | exact X1_0 | exact Box.new _ _ _ _ | refine Box.alloc ?_ _) hb2
  clear hb2 l1_0 c1_0 d1_0 f1_0 HB1 X1_0
  obtain ⟨l2_0, c2_0, d2_0, f2_0⟩ := id X2_0
  go_wp2_with fail
  refine (size_is c h x n HN.out _).mono ?_
  rintro e w3 ⟨rfl, hb3⟩
  have HB3 : Hid (Below w.heap.size w w3) := chain (by repeat first | exact HB2.out | exact Below.refl _ _ | refine chain_alloc ?_ _) hb3
  have X3_0 : Box w3 (w.heap.size) c h x := Box.below (by repeat first | exact X2_0 | exact Box.new _ _ _ _ | refine Box.alloc ?_ _) hb3
  clear hb3 l2_0 c2_0 d2_0 f2_0 HB2 X2_0
  obtain ⟨l3_0, c3_0, d3_0, f3_0⟩ := id X3_0
  go_wp2_with fail
  refine (of_is c h x p k y z true HO.out _).mono ?_
  rintro e w4 ⟨rfl, hb4⟩
  have HB4 : Hid (Below w.heap.size w w4) := chain (by repeat first | exact HB3.out | exact Below.refl _ _ | refine chain_alloc ?_ _) hb4
  have X4_0 : Box w4 (w.heap.size) c h x := Box.below (by repeat first | exact X3_0 | exact Box.new _ _ _ _ | refine Box.alloc ?_ _) hb4
  clear hb4 l3_0 c3_0 d3_0 f3_0 HB3 X3_0
  obtain ⟨l4_0, c4_0, d4_0, f4_0⟩ := id X4_0
  go_wp2_with fail
  refine (of_is c h x i 0 0 0 false HF.out _).mono ?_
  rintro e w5 ⟨rfl, hb5⟩
  have HB5 : Hid (Below w.heap.size w w5) := chain (by repeat first | exact HB4.out | exact Below.refl _ _ | refine chain_alloc ?_ _) hb5
  have X5_0 : Box w5 (w.heap.size) c h x := Box.below (by repeat first | exact X4_0 | exact Box.new _ _ _ _ | refine Box.alloc ?_ _) hb5
  clear hb5 l4_0 c4_0 d4_0 f4_0 HB4 X4_0
  obtain ⟨l5_0, c5_0, d5_0, f5_0⟩ := id X5_0
  go_wp2_with fail
  go_ret
  exact ⟨rfl, HB5.out⟩

set_option maxHeartbeats 1000000 in
set_option maxRecDepth 100000 in
theorem places_out_yes (c h x k y z i : Int) (n : Int) (hp : atI c h x k y z = -1) (hn : sizeI c h x = n) (n1 : 1 ≤ n) (ho : chI c h x (-1) = 0 ∧ rowI c h x (-1) = 0 ∧ colI c h x (-1) = 0 ∧ hasB c h x (-1) = false) (a b d : Int) (i0 : 0 ≤ i) (i1 : i < n) (hf : chI c h x i = a ∧ rowI c h x i = b ∧ colI c h x i = d ∧ hasB c h x i = true) (ht : atI c h x a b d = i) (w : World) :
    Calls Try.prog 4 #[.agg #[.int .i64 c, .int .i64 h, .int .i64 x], .int .i64 k, .int .i64 y, .int .i64 z, .int .i64 i] w fun e w' => e = .returned (.bool true) ∧ Below w.heap.size w w' := by
  have f2 : decide (n ≤ -1) = false := decide_eq_false (by omega)
  have g1 : decide (0 ≤ i) = true := decide_eq_true i0
  have g2 : decide (i < n) = true := decide_eq_true i1
  have HT := Lib.hid ht; clear ht
  have HP := Lib.hid hp; clear hp
  have HN := Lib.hid hn; clear hn
  have HO := Lib.hid ho; clear ho
  have HF := Lib.hid hf; clear hf
  go_enter Try.func4, Try.ntmps4
  go_wp2_with fail
  refine (head_any _).mono ?_
  rintro e w1 ⟨rfl, hb1⟩
  have HB1 : Hid (Below w.heap.size w w1) := chain (by repeat first | exact Below.refl _ _ | refine chain_alloc ?_ _) hb1
  have X1_0 : Box w1 (w.heap.size) c h x := Box.below (by repeat first | exact Box.new _ _ _ _ | refine Box.alloc ?_ _) hb1
  clear hb1
  obtain ⟨l1_0, c1_0, d1_0, f1_0⟩ := id X1_0
  go_wp2_with fail
  refine (at_is c h x k y z (-1) HP.out _).mono ?_
  rintro e w2 ⟨rfl, hb2⟩
  have HB2 : Hid (Below w.heap.size w w2) := chain (by repeat first | exact HB1.out | exact Below.refl _ _ | refine chain_alloc ?_ _) hb2
  have X2_0 : Box w2 (w.heap.size) c h x := Box.below (by repeat first | exact X1_0 | exact Box.new _ _ _ _ | refine Box.alloc ?_ _) hb2
  clear hb2 l1_0 c1_0 d1_0 f1_0 HB1 X1_0
  obtain ⟨l2_0, c2_0, d2_0, f2_0⟩ := id X2_0
  go_wp2_with fail
  refine (size_is c h x n HN.out _).mono ?_
  rintro e w3 ⟨rfl, hb3⟩
  have HB3 : Hid (Below w.heap.size w w3) := chain (by repeat first | exact HB2.out | exact Below.refl _ _ | refine chain_alloc ?_ _) hb3
  have X3_0 : Box w3 (w.heap.size) c h x := Box.below (by repeat first | exact X2_0 | exact Box.new _ _ _ _ | refine Box.alloc ?_ _) hb3
  clear hb3 l2_0 c2_0 d2_0 f2_0 HB2 X2_0
  obtain ⟨l3_0, c3_0, d3_0, f3_0⟩ := id X3_0
  go_wp2_with fail
  refine (of_is c h x (-1) 0 0 0 false HO.out _).mono ?_
  rintro e w4 ⟨rfl, hb4⟩
  have HB4 : Hid (Below w.heap.size w w4) := chain (by repeat first | exact HB3.out | exact Below.refl _ _ | refine chain_alloc ?_ _) hb4
  have X4_0 : Box w4 (w.heap.size) c h x := Box.below (by repeat first | exact X3_0 | exact Box.new _ _ _ _ | refine Box.alloc ?_ _) hb4
  clear hb4 l3_0 c3_0 d3_0 f3_0 HB3 X3_0
  obtain ⟨l4_0, c4_0, d4_0, f4_0⟩ := id X4_0
  go_wp2_with fail
  refine (of_is c h x i a b d true HF.out _).mono ?_
  rintro e w5 ⟨rfl, hb5⟩
  have HB5 : Hid (Below w.heap.size w w5) := chain (by repeat first | exact HB4.out | exact Below.refl _ _ | refine chain_alloc ?_ _) hb5
  have X5_0 : Box w5 (w.heap.size) c h x := Box.below (by repeat first | exact X4_0 | exact Box.new _ _ _ _ | refine Box.alloc ?_ _) hb5
  clear hb5 l4_0 c4_0 d4_0 f4_0 HB4 X4_0
  obtain ⟨l5_0, c5_0, d5_0, f5_0⟩ := id X5_0
  go_wp2_with fail
  refine (at_is c h x a b d i HT.out _).mono ?_
  rintro e w6 ⟨rfl, hb6⟩
  have HB6 : Hid (Below w.heap.size w w6) := chain (by repeat first | exact HB5.out | exact Below.refl _ _ | refine chain_alloc ?_ _) hb6
  have X6_0 : Box w6 (w.heap.size) c h x := Box.below (by repeat first | exact X5_0 | exact Box.new _ _ _ _ | refine Box.alloc ?_ _) hb6
  clear hb6 l5_0 c5_0 d5_0 f5_0 HB5 X5_0
  obtain ⟨l6_0, c6_0, d6_0, f6_0⟩ := id X6_0
  go_wp2_with fail
  go_ret
  exact ⟨rfl, HB6.out⟩

set_option maxHeartbeats 1000000 in
set_option maxRecDepth 100000 in
theorem places_out_low (c h x k y z i : Int) (n : Int) (hp : atI c h x k y z = -1) (hn : sizeI c h x = n) (n1 : 1 ≤ n) (ho : chI c h x (-1) = 0 ∧ rowI c h x (-1) = 0 ∧ colI c h x (-1) = 0 ∧ hasB c h x (-1) = false) (i0 : i < 0) (hf : chI c h x i = 0 ∧ rowI c h x i = 0 ∧ colI c h x i = 0 ∧ hasB c h x i = false) (w : World) :
    Calls Try.prog 4 #[.agg #[.int .i64 c, .int .i64 h, .int .i64 x], .int .i64 k, .int .i64 y, .int .i64 z, .int .i64 i] w fun e w' => e = .returned (.bool true) ∧ Below w.heap.size w w' := by
  have f2 : decide (n ≤ -1) = false := decide_eq_false (by omega)
  have g1 : decide (0 ≤ i) = false := decide_eq_false (by omega)
  have HP := Lib.hid hp; clear hp
  have HN := Lib.hid hn; clear hn
  have HO := Lib.hid ho; clear ho
  have HF := Lib.hid hf; clear hf
  go_enter Try.func4, Try.ntmps4
  go_wp2_with fail
  refine (head_any _).mono ?_
  rintro e w1 ⟨rfl, hb1⟩
  have HB1 : Hid (Below w.heap.size w w1) := chain (by repeat first | exact Below.refl _ _ | refine chain_alloc ?_ _) hb1
  have X1_0 : Box w1 (w.heap.size) c h x := Box.below (by repeat first | exact Box.new _ _ _ _ | refine Box.alloc ?_ _) hb1
  clear hb1
  obtain ⟨l1_0, c1_0, d1_0, f1_0⟩ := id X1_0
  go_wp2_with fail
  refine (at_is c h x k y z (-1) HP.out _).mono ?_
  rintro e w2 ⟨rfl, hb2⟩
  have HB2 : Hid (Below w.heap.size w w2) := chain (by repeat first | exact HB1.out | exact Below.refl _ _ | refine chain_alloc ?_ _) hb2
  have X2_0 : Box w2 (w.heap.size) c h x := Box.below (by repeat first | exact X1_0 | exact Box.new _ _ _ _ | refine Box.alloc ?_ _) hb2
  clear hb2 l1_0 c1_0 d1_0 f1_0 HB1 X1_0
  obtain ⟨l2_0, c2_0, d2_0, f2_0⟩ := id X2_0
  go_wp2_with fail
  refine (size_is c h x n HN.out _).mono ?_
  rintro e w3 ⟨rfl, hb3⟩
  have HB3 : Hid (Below w.heap.size w w3) := chain (by repeat first | exact HB2.out | exact Below.refl _ _ | refine chain_alloc ?_ _) hb3
  have X3_0 : Box w3 (w.heap.size) c h x := Box.below (by repeat first | exact X2_0 | exact Box.new _ _ _ _ | refine Box.alloc ?_ _) hb3
  clear hb3 l2_0 c2_0 d2_0 f2_0 HB2 X2_0
  obtain ⟨l3_0, c3_0, d3_0, f3_0⟩ := id X3_0
  go_wp2_with fail
  refine (of_is c h x (-1) 0 0 0 false HO.out _).mono ?_
  rintro e w4 ⟨rfl, hb4⟩
  have HB4 : Hid (Below w.heap.size w w4) := chain (by repeat first | exact HB3.out | exact Below.refl _ _ | refine chain_alloc ?_ _) hb4
  have X4_0 : Box w4 (w.heap.size) c h x := Box.below (by repeat first | exact X3_0 | exact Box.new _ _ _ _ | refine Box.alloc ?_ _) hb4
  clear hb4 l3_0 c3_0 d3_0 f3_0 HB3 X3_0
  obtain ⟨l4_0, c4_0, d4_0, f4_0⟩ := id X4_0
  go_wp2_with fail
  refine (of_is c h x i 0 0 0 false HF.out _).mono ?_
  rintro e w5 ⟨rfl, hb5⟩
  have HB5 : Hid (Below w.heap.size w w5) := chain (by repeat first | exact HB4.out | exact Below.refl _ _ | refine chain_alloc ?_ _) hb5
  have X5_0 : Box w5 (w.heap.size) c h x := Box.below (by repeat first | exact X4_0 | exact Box.new _ _ _ _ | refine Box.alloc ?_ _) hb5
  clear hb5 l4_0 c4_0 d4_0 f4_0 HB4 X4_0
  obtain ⟨l5_0, c5_0, d5_0, f5_0⟩ := id X5_0
  go_wp2_with fail
  go_ret
  exact ⟨rfl, HB5.out⟩

set_option maxHeartbeats 1000000 in
set_option maxRecDepth 100000 in
theorem places_out_high (c h x k y z i : Int) (n : Int) (hp : atI c h x k y z = -1) (hn : sizeI c h x = n) (n1 : 1 ≤ n) (ho : chI c h x (-1) = 0 ∧ rowI c h x (-1) = 0 ∧ colI c h x (-1) = 0 ∧ hasB c h x (-1) = false) (i0 : 0 ≤ i) (i1 : n ≤ i) (hf : chI c h x i = 0 ∧ rowI c h x i = 0 ∧ colI c h x i = 0 ∧ hasB c h x i = false) (w : World) :
    Calls Try.prog 4 #[.agg #[.int .i64 c, .int .i64 h, .int .i64 x], .int .i64 k, .int .i64 y, .int .i64 z, .int .i64 i] w fun e w' => e = .returned (.bool true) ∧ Below w.heap.size w w' := by
  have f2 : decide (n ≤ -1) = false := decide_eq_false (by omega)
  have g1 : decide (0 ≤ i) = true := decide_eq_true i0
  have g2 : decide (i < n) = false := decide_eq_false (by omega)
  have HP := Lib.hid hp; clear hp
  have HN := Lib.hid hn; clear hn
  have HO := Lib.hid ho; clear ho
  have HF := Lib.hid hf; clear hf
  go_enter Try.func4, Try.ntmps4
  go_wp2_with fail
  refine (head_any _).mono ?_
  rintro e w1 ⟨rfl, hb1⟩
  have HB1 : Hid (Below w.heap.size w w1) := chain (by repeat first | exact Below.refl _ _ | refine chain_alloc ?_ _) hb1
  have X1_0 : Box w1 (w.heap.size) c h x := Box.below (by repeat first | exact Box.new _ _ _ _ | refine Box.alloc ?_ _) hb1
  clear hb1
  obtain ⟨l1_0, c1_0, d1_0, f1_0⟩ := id X1_0
  go_wp2_with fail
  refine (at_is c h x k y z (-1) HP.out _).mono ?_
  rintro e w2 ⟨rfl, hb2⟩
  have HB2 : Hid (Below w.heap.size w w2) := chain (by repeat first | exact HB1.out | exact Below.refl _ _ | refine chain_alloc ?_ _) hb2
  have X2_0 : Box w2 (w.heap.size) c h x := Box.below (by repeat first | exact X1_0 | exact Box.new _ _ _ _ | refine Box.alloc ?_ _) hb2
  clear hb2 l1_0 c1_0 d1_0 f1_0 HB1 X1_0
  obtain ⟨l2_0, c2_0, d2_0, f2_0⟩ := id X2_0
  go_wp2_with fail
  refine (size_is c h x n HN.out _).mono ?_
  rintro e w3 ⟨rfl, hb3⟩
  have HB3 : Hid (Below w.heap.size w w3) := chain (by repeat first | exact HB2.out | exact Below.refl _ _ | refine chain_alloc ?_ _) hb3
  have X3_0 : Box w3 (w.heap.size) c h x := Box.below (by repeat first | exact X2_0 | exact Box.new _ _ _ _ | refine Box.alloc ?_ _) hb3
  clear hb3 l2_0 c2_0 d2_0 f2_0 HB2 X2_0
  obtain ⟨l3_0, c3_0, d3_0, f3_0⟩ := id X3_0
  go_wp2_with fail
  refine (of_is c h x (-1) 0 0 0 false HO.out _).mono ?_
  rintro e w4 ⟨rfl, hb4⟩
  have HB4 : Hid (Below w.heap.size w w4) := chain (by repeat first | exact HB3.out | exact Below.refl _ _ | refine chain_alloc ?_ _) hb4
  have X4_0 : Box w4 (w.heap.size) c h x := Box.below (by repeat first | exact X3_0 | exact Box.new _ _ _ _ | refine Box.alloc ?_ _) hb4
  clear hb4 l3_0 c3_0 d3_0 f3_0 HB3 X3_0
  obtain ⟨l4_0, c4_0, d4_0, f4_0⟩ := id X4_0
  go_wp2_with fail
  refine (of_is c h x i 0 0 0 false HF.out _).mono ?_
  rintro e w5 ⟨rfl, hb5⟩
  have HB5 : Hid (Below w.heap.size w w5) := chain (by repeat first | exact HB4.out | exact Below.refl _ _ | refine chain_alloc ?_ _) hb5
  have X5_0 : Box w5 (w.heap.size) c h x := Box.below (by repeat first | exact X4_0 | exact Box.new _ _ _ _ | refine Box.alloc ?_ _) hb5
  clear hb5 l4_0 c4_0 d4_0 f4_0 HB4 X4_0
  obtain ⟨l5_0, c5_0, d5_0, f5_0⟩ := id X5_0
  go_wp2_with fail
  go_ret
  exact ⟨rfl, HB5.out⟩

set_option maxHeartbeats 1000000 in
set_option maxRecDepth 100000 in
theorem places_none_low (c h x k y z i : Int) (n : Int) (hp : atI c h x k y z = -1) (hn : sizeI c h x = n) (n1 : n = 0) (ho : chI c h x (-1) = 0 ∧ rowI c h x (-1) = 0 ∧ colI c h x (-1) = 0 ∧ hasB c h x (-1) = false) (i0 : i < 0) (hf : chI c h x i = 0 ∧ rowI c h x i = 0 ∧ colI c h x i = 0 ∧ hasB c h x i = false) (w : World) :
    Calls Try.prog 4 #[.agg #[.int .i64 c, .int .i64 h, .int .i64 x], .int .i64 k, .int .i64 y, .int .i64 z, .int .i64 i] w fun e w' => e = .returned (.bool true) ∧ Below w.heap.size w w' := by
  subst n1
  have g1 : decide (0 ≤ i) = false := decide_eq_false (by omega)
  have HP := Lib.hid hp; clear hp
  have HN := Lib.hid hn; clear hn
  have HO := Lib.hid ho; clear ho
  have HF := Lib.hid hf; clear hf
  go_enter Try.func4, Try.ntmps4
  go_wp2_with fail
  refine (head_any _).mono ?_
  rintro e w1 ⟨rfl, hb1⟩
  have HB1 : Hid (Below w.heap.size w w1) := chain (by repeat first | exact Below.refl _ _ | refine chain_alloc ?_ _) hb1
  have X1_0 : Box w1 (w.heap.size) c h x := Box.below (by repeat first | exact Box.new _ _ _ _ | refine Box.alloc ?_ _) hb1
  clear hb1
  obtain ⟨l1_0, c1_0, d1_0, f1_0⟩ := id X1_0
  go_wp2_with fail
  refine (at_is c h x k y z (-1) HP.out _).mono ?_
  rintro e w2 ⟨rfl, hb2⟩
  have HB2 : Hid (Below w.heap.size w w2) := chain (by repeat first | exact HB1.out | exact Below.refl _ _ | refine chain_alloc ?_ _) hb2
  have X2_0 : Box w2 (w.heap.size) c h x := Box.below (by repeat first | exact X1_0 | exact Box.new _ _ _ _ | refine Box.alloc ?_ _) hb2
  clear hb2 l1_0 c1_0 d1_0 f1_0 HB1 X1_0
  obtain ⟨l2_0, c2_0, d2_0, f2_0⟩ := id X2_0
  go_wp2_with fail
  refine (size_is c h x 0 HN.out _).mono ?_
  rintro e w3 ⟨rfl, hb3⟩
  have HB3 : Hid (Below w.heap.size w w3) := chain (by repeat first | exact HB2.out | exact Below.refl _ _ | refine chain_alloc ?_ _) hb3
  have X3_0 : Box w3 (w.heap.size) c h x := Box.below (by repeat first | exact X2_0 | exact Box.new _ _ _ _ | refine Box.alloc ?_ _) hb3
  clear hb3 l2_0 c2_0 d2_0 f2_0 HB2 X2_0
  obtain ⟨l3_0, c3_0, d3_0, f3_0⟩ := id X3_0
  go_wp2_with fail
  refine (of_is c h x (-1) 0 0 0 false HO.out _).mono ?_
  rintro e w4 ⟨rfl, hb4⟩
  have HB4 : Hid (Below w.heap.size w w4) := chain (by repeat first | exact HB3.out | exact Below.refl _ _ | refine chain_alloc ?_ _) hb4
  have X4_0 : Box w4 (w.heap.size) c h x := Box.below (by repeat first | exact X3_0 | exact Box.new _ _ _ _ | refine Box.alloc ?_ _) hb4
  clear hb4 l3_0 c3_0 d3_0 f3_0 HB3 X3_0
  obtain ⟨l4_0, c4_0, d4_0, f4_0⟩ := id X4_0
  go_wp2_with fail
  refine (of_is c h x i 0 0 0 false HF.out _).mono ?_
  rintro e w5 ⟨rfl, hb5⟩
  have HB5 : Hid (Below w.heap.size w w5) := chain (by repeat first | exact HB4.out | exact Below.refl _ _ | refine chain_alloc ?_ _) hb5
  have X5_0 : Box w5 (w.heap.size) c h x := Box.below (by repeat first | exact X4_0 | exact Box.new _ _ _ _ | refine Box.alloc ?_ _) hb5
  clear hb5 l4_0 c4_0 d4_0 f4_0 HB4 X4_0
  obtain ⟨l5_0, c5_0, d5_0, f5_0⟩ := id X5_0
  go_wp2_with fail
  go_ret
  exact ⟨rfl, HB5.out⟩

set_option maxHeartbeats 1000000 in
set_option maxRecDepth 100000 in
theorem places_none_high (c h x k y z i : Int) (n : Int) (hp : atI c h x k y z = -1) (hn : sizeI c h x = n) (n1 : n = 0) (ho : chI c h x (-1) = 0 ∧ rowI c h x (-1) = 0 ∧ colI c h x (-1) = 0 ∧ hasB c h x (-1) = false) (i0 : 0 ≤ i) (i1 : n ≤ i) (hf : chI c h x i = 0 ∧ rowI c h x i = 0 ∧ colI c h x i = 0 ∧ hasB c h x i = false) (w : World) :
    Calls Try.prog 4 #[.agg #[.int .i64 c, .int .i64 h, .int .i64 x], .int .i64 k, .int .i64 y, .int .i64 z, .int .i64 i] w fun e w' => e = .returned (.bool true) ∧ Below w.heap.size w w' := by
  subst n1
  have g1 : decide (0 ≤ i) = true := decide_eq_true i0
  have g2 : decide (i < 0) = false := decide_eq_false (by omega)
  have HP := Lib.hid hp; clear hp
  have HN := Lib.hid hn; clear hn
  have HO := Lib.hid ho; clear ho
  have HF := Lib.hid hf; clear hf
  go_enter Try.func4, Try.ntmps4
  go_wp2_with fail
  refine (head_any _).mono ?_
  rintro e w1 ⟨rfl, hb1⟩
  have HB1 : Hid (Below w.heap.size w w1) := chain (by repeat first | exact Below.refl _ _ | refine chain_alloc ?_ _) hb1
  have X1_0 : Box w1 (w.heap.size) c h x := Box.below (by repeat first | exact Box.new _ _ _ _ | refine Box.alloc ?_ _) hb1
  clear hb1
  obtain ⟨l1_0, c1_0, d1_0, f1_0⟩ := id X1_0
  go_wp2_with fail
  refine (at_is c h x k y z (-1) HP.out _).mono ?_
  rintro e w2 ⟨rfl, hb2⟩
  have HB2 : Hid (Below w.heap.size w w2) := chain (by repeat first | exact HB1.out | exact Below.refl _ _ | refine chain_alloc ?_ _) hb2
  have X2_0 : Box w2 (w.heap.size) c h x := Box.below (by repeat first | exact X1_0 | exact Box.new _ _ _ _ | refine Box.alloc ?_ _) hb2
  clear hb2 l1_0 c1_0 d1_0 f1_0 HB1 X1_0
  obtain ⟨l2_0, c2_0, d2_0, f2_0⟩ := id X2_0
  go_wp2_with fail
  refine (size_is c h x 0 HN.out _).mono ?_
  rintro e w3 ⟨rfl, hb3⟩
  have HB3 : Hid (Below w.heap.size w w3) := chain (by repeat first | exact HB2.out | exact Below.refl _ _ | refine chain_alloc ?_ _) hb3
  have X3_0 : Box w3 (w.heap.size) c h x := Box.below (by repeat first | exact X2_0 | exact Box.new _ _ _ _ | refine Box.alloc ?_ _) hb3
  clear hb3 l2_0 c2_0 d2_0 f2_0 HB2 X2_0
  obtain ⟨l3_0, c3_0, d3_0, f3_0⟩ := id X3_0
  go_wp2_with fail
  refine (of_is c h x (-1) 0 0 0 false HO.out _).mono ?_
  rintro e w4 ⟨rfl, hb4⟩
  have HB4 : Hid (Below w.heap.size w w4) := chain (by repeat first | exact HB3.out | exact Below.refl _ _ | refine chain_alloc ?_ _) hb4
  have X4_0 : Box w4 (w.heap.size) c h x := Box.below (by repeat first | exact X3_0 | exact Box.new _ _ _ _ | refine Box.alloc ?_ _) hb4
  clear hb4 l3_0 c3_0 d3_0 f3_0 HB3 X3_0
  obtain ⟨l4_0, c4_0, d4_0, f4_0⟩ := id X4_0
  go_wp2_with fail
  refine (of_is c h x i 0 0 0 false HF.out _).mono ?_
  rintro e w5 ⟨rfl, hb5⟩
  have HB5 : Hid (Below w.heap.size w w5) := chain (by repeat first | exact HB4.out | exact Below.refl _ _ | refine chain_alloc ?_ _) hb5
  have X5_0 : Box w5 (w.heap.size) c h x := Box.below (by repeat first | exact X4_0 | exact Box.new _ _ _ _ | refine Box.alloc ?_ _) hb5
  clear hb5 l4_0 c4_0 d4_0 f4_0 HB4 X4_0
  obtain ⟨l5_0, c5_0, d5_0, f5_0⟩ := id X5_0
  go_wp2_with fail
  go_ret
  exact ⟨rfl, HB5.out⟩

theorem places_walk (c h x k y z i : Int) (w : World) : Calls Try.prog 4 #[.agg #[.int .i64 c, .int .i64 h, .int .i64 x], .int .i64 k, .int .i64 y, .int .i64 z, .int .i64 i] w fun e w' => e = .returned (.bool true) ∧ Below w.heap.size w w' := by
  have hf0 : hasB c h x i = false → chI c h x i = 0 ∧ rowI c h x i = 0 ∧ colI c h x i = 0 ∧ hasB c h x i = false := fun e => ⟨(of_no e).1, (of_no e).2.1, (of_no e).2.2, e⟩
  have hf1 : hasB c h x i = true → ∃ a b d : Int, (chI c h x i = a ∧ rowI c h x i = b ∧ colI c h x i = d ∧ hasB c h x i = true) ∧ atI c h x a b d = i := fun e => by
    have q := of_at e
    have q2 := of_yes e
    exact ⟨_, _, _, ⟨q2.1, q2.2.1, q2.2.2, e⟩, (atI_yes q.1).trans q.2⟩
  have ho : hasB c h x (-1) = false := hasB_no (by omega)
  have ho' : chI c h x (-1) = 0 ∧ rowI c h x (-1) = 0 ∧ colI c h x (-1) = 0 ∧ hasB c h x (-1) = false := ⟨(of_no ho).1, (of_no ho).2.1, (of_no ho).2.2, ho⟩
  have sb := sizeI_bd c h x
  cases s : insideB c h x k y z
  · have hp := atI_no s
    by_cases n0 : sizeI c h x = 0
    · have hi : hasB c h x i = false := hasB_no (by omega)
      by_cases i0 : i < 0
      · exact places_none_low c h x k y z i _ hp rfl n0 ho' i0 (hf0 hi) w
      · exact places_none_high c h x k y z i _ hp rfl n0 ho' (by omega) (by omega) (hf0 hi) w
    · cases hi : hasB c h x i
      · have := hasB_not hi
        by_cases i0 : i < 0
        · exact places_out_low c h x k y z i _ hp rfl (by omega) ho' i0 (hf0 hi) w
        · exact places_out_high c h x k y z i _ hp rfl (by omega) ho' (by omega) (by omega) (hf0 hi) w
      · obtain ⟨a, b, d, e1, e2⟩ := hf1 hi
        have := hasB_out hi
        exact places_out_yes c h x k y z i _ hp rfl (by omega) ho' a b d this.1 this.2 e1 e2 w
  · obtain ⟨r, _⟩ := insideB_out s
    have q := at_of s
    have q2 := of_yes q.1
    have q3 := at_small s
    have ho2 : chI c h x ((k * h + y) * x + z) = k ∧ rowI c h x ((k * h + y) * x + z) = y ∧ colI c h x ((k * h + y) * x + z) = z ∧ hasB c h x ((k * h + y) * x + z) = true :=
      ⟨q2.1.trans q.2.1, q2.2.1.trans q.2.2.1, q2.2.2.trans q.2.2.2, q.1⟩
    have p1 : (k * h + y) * x + z < sizeI c h x := (hasB_out q.1).2
    cases hi : hasB c h x i
    · have := hasB_not hi
      by_cases i0 : i < 0
      · exact places_in_low c h x k y z i _ _ (atI_yes s) rfl q3.2.2.2.2.1 p1 ho2 i0 (hf0 hi) w
      · exact places_in_high c h x k y z i _ _ (atI_yes s) rfl q3.2.2.2.2.1 p1 ho2 (by omega) (by omega) (hf0 hi) w
    · obtain ⟨a, b, d, e1, e2⟩ := hf1 hi
      have := hasB_out hi
      exact places_in_yes c h x k y z i _ _ (atI_yes s) rfl q3.2.2.2.2.1 p1 ho2 a b d this.1 this.2 e1 e2 w

end Go.Proofs.Ytemkloomigijjaa
